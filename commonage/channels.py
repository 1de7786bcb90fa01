"""Channels: the rows of letters between one machine and the others (points [24] to [26])."""


def new_rows(machines):
    """The rows of a machine that has sent and taken nothing."""
    return {"sent": [0] * machines, "taken": [0] * machines, "kept": [[] for _ in range(machines)]}


def send(rows, target, letter):
    """Adds a letter to the row to the target; returns its parcel. Changes the rows."""
    number = rows["sent"][target] + 1
    rows["sent"][target] = number
    parcel = (number, letter)
    rows["kept"][target].append(parcel)
    return parcel


def take(rows, source, parcel):
    """The letter of the parcel if this is the next one of its row, otherwise None. Changes the rows."""
    number, letter = parcel
    if number != rows["taken"][source] + 1:
        return None
    rows["taken"][source] = number
    return letter


def answer(rows, source):
    """The number of the answer to a machine: that of the last letter that was taken from it."""
    return rows["taken"][source]


def confirm(rows, target, number):
    """Takes an answer of the target: what it has taken is not kept any longer. Changes the rows."""
    rows["kept"][target] = [parcel for parcel in rows["kept"][target] if parcel[0] > number]


def parcels(rows, target):
    """The list of the parcels to the target that are kept, in order."""
    return list(rows["kept"][target])
