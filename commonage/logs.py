"""Logs: the disks of the machines, and copies of plain values (points [27] to [30])."""


def copied(value):
    """A copy of a plain value that shares no list or dict with it."""
    if isinstance(value, list):
        return [copied(part) for part in value]
    if isinstance(value, tuple):
        return tuple([copied(part) for part in value])
    if isinstance(value, dict):
        return {key: copied(part) for key, part in value.items()}
    return value


class Disk:
    """What a machine finds again after a fall: its last save, and the log of what was written since."""

    def __init__(self):
        self._kept = None
        self._log = []

    def write(self, entry):
        """Adds an entry to the log."""
        self._log.append(copied(entry))

    def save(self, value):
        """Writes a save, which empties the log."""
        self._kept = copied(value)
        self._log = []

    def saved(self):
        """A copy of the last save, None if there is none."""
        return copied(self._kept)

    def entries(self):
        """The list of the entries of the log."""
        return copied(self._log)
