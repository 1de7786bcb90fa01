"""Locks, as their managers keep them (points [18] to [20])."""

from commonage.clocks import zero_clock


def manager_of(lock, machines):
    """The machine that manages the lock with this number."""
    return lock % machines


def new_lock(machines):
    """A lock that was never asked for."""
    return {"holder": None, "queue": [], "clock": zero_clock(machines), "grants": 0}


def granted(lock, machine, clock):
    """Makes the machine, which asked with this clock, the holder; returns the grant. Changes the lock."""
    lock["holder"] = machine
    lock["grants"] = lock["grants"] + 1
    return machine, clock, lock["grants"], lock["clock"]


def ask(lock, machine, clock):
    """A machine asks for the lock, which is changed; returns the grant, or None if it must wait."""
    if lock["holder"] is None:
        return granted(lock, machine, clock)
    lock["queue"] = lock["queue"] + [(machine, clock)]
    return None


def let_go(lock, clock):
    """The holder lets the lock go, which is changed; returns the grant to the next one, or None."""
    lock["holder"] = None
    lock["clock"] = clock
    if len(lock["queue"]) == 0:
        return None
    machine, asked = lock["queue"][0]
    lock["queue"] = lock["queue"][1:]
    return granted(lock, machine, asked)
