"""Nodes: the machines with their programs, copies of pages, rows of letters and disks (points [28] to [38])."""

from commonage.clocks import ascending
from commonage.cores import new_core, take_sent
from commonage.letters import is_next, kept_for, list_of_records, take_answer, take_parcel, taken_from
from commonage.pages import new_page
from commonage.steps import follow, make_step


def come_back(core, program, disk):
    """The core that the disk tells of; the one that is passed, of a node at the beginning, if it has no save."""
    saved = disk.saved()
    if saved is not None:
        core = saved
    for entry in disk.entries():
        follow(core, program, entry)
    # What is sent here was put into the net before the fall, and is kept again.
    take_sent(core)
    return core


class Node:
    """A machine with its program; if its disk is not empty, it comes back from it."""

    def __init__(self, machine, machines, program, pages, disk):
        self._program = list(program)
        self._disk = disk
        self._core = come_back(new_core(machine, machines, pages), self._program, disk)

    def step(self):
        """Makes a step if the state is "run"; returns the list of the tuples (target, parcel) that were sent."""
        make_step(self._core, self._program)
        sent = take_sent(self._core)
        # What others may see of a step has to be on the disk first.
        if len(sent) > 0:
            self._disk.write(("steps", self._core["steps"]))
        return sent

    def take(self, source, parcel):
        """A parcel arrives; returns the list of what was sent by it."""
        if not is_next(self._core, source, parcel):
            return []
        # Nothing may come of a letter that is not on the disk.
        self._disk.write(("letter", self._core["steps"], source, parcel))
        take_parcel(self._core, source, parcel)
        return take_sent(self._core)

    def answer(self, source):
        """The number of the answer to a machine."""
        return taken_from(self._core, source)

    def confirm(self, target, number):
        """An answer of the target arrives."""
        take_answer(self._core, target, number)

    def again(self, target):
        """The list of the parcels to the target that are kept, in order."""
        return kept_for(self._core, target)

    def save(self):
        """Writes a save."""
        self._disk.save(self._core)

    def state(self):
        """The word of the state."""
        return self._core["state"]

    def steps(self):
        """How many steps were made."""
        return self._core["steps"]

    def clock(self):
        """The clock of the present interval."""
        return self._core["clock"]

    def events(self):
        """The list of the events that were noted."""
        return list(self._core["events"])

    def races(self):
        """The list of the papers of the races that were found, by machine 0 only."""
        return list(self._core["races"])

    def copy_of(self, page):
        """The list of the words of the copy of a page."""
        copies = self._core["copies"]
        # A page that is not there was never stored.
        return list(copies[page]) if 0 <= page < len(copies) else new_page()

    def homes(self):
        """The list of the homes of the pages, as far as the node knows."""
        return list(self._core["homes"])

    def waits_for(self):
        """What the node waits for, None if it waits for nothing."""
        return self._core["waits"]

    def known(self):
        """The list of the known records, ascending."""
        return ascending(list_of_records(self._core))

    def holder(self, lock):
        """The holder of a lock that this node manages, None for other locks."""
        locks = self._core["locks"]
        return locks[lock]["holder"] if lock in locks else None
