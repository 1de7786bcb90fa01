"""Barriers, as machine 0, their master, keeps them (points [21] to [23])."""


def new_master():
    """What the master keeps at the beginning."""
    return {"come": [], "ended": [], "number": 0, "over": False}


def come(master, machine, clock, ended):
    """A machine comes to the next barrier, or to all further ones if it has ended. Changes the master."""
    row = (machine, clock)
    master["come"] = master["come"] + [row]
    if ended:
        master["ended"] = master["ended"] + [row]


def has_all(rows, machines):
    """True if each of the machines has one of the rows."""
    present = [machine for machine, _ in rows]
    return all([machine in present for machine in range(machines)])


def is_complete(master, machines):
    """True if all machines have come to the next barrier and it is not over."""
    return not is_over(master) and has_all(master["come"], machines)


def clocks_of(master):
    """The dict from the machines that have come to the clocks with which they came."""
    return {machine: clock for machine, clock in master["come"]}


def go_on(master, machines):
    """The barrier is passed; returns its number. Changes the master."""
    # When it is over, no further barrier is passed.
    if not is_over(master):
        master["number"] = master["number"] + 1
        master["come"] = list(master["ended"])
        master["over"] = has_all(master["ended"], machines)
    return master["number"]


def is_over(master):
    """True if a barrier was passed when all machines had ended."""
    return master["over"]
