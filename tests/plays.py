"""What several tests play with: nodes with their disks, and letters that are delivered by hand; programs by chance."""

from commonage.logs import Disk
from commonage.nodes import Node


def disk_like(disk):
    """Another disk with the same save and log."""
    other = Disk()
    if disk.saved() is not None:
        other.save(disk.saved())
    for entry in disk.entries():
        other.write(entry)
    return other


def told_by(node, machines, pages=3):
    """All that a node tells of itself but for the letters that it keeps."""
    return {
        "state": node.state(),
        "steps": node.steps(),
        "clock": node.clock(),
        "events": node.events(),
        "races": node.races(),
        "copies": [node.copy_of(page) for page in range(pages)],
        "homes": node.homes(),
        "waits": node.waits_for(),
        "known": node.known(),
        "holders": [node.holder(lock) for lock in range(4)],
        "answers": [node.answer(source) for source in range(machines)],
    }


class Nodes:
    """Nodes and the parcels that are under way between them, each row in its order."""

    def __init__(self, programs, pages=1):
        self.programs, self.pages = programs, pages
        self.disks = [Disk() for _ in programs]
        self.nodes = [None] * len(programs)
        self.rows = {}
        for machine in range(len(programs)):
            self.come_back(machine)

    def come_back(self, machine):
        """The node is made (once more) from its disk."""
        self.nodes[machine] = Node(
            machine, len(self.programs), self.programs[machine], self.pages, self.disks[machine],
        )
        return self.nodes[machine]

    def put(self, source, sent):
        """Puts parcels under way; returns the tuples (target, letter)."""
        for target, parcel in sent:
            self.rows.setdefault((source, target), []).append(parcel)
        return [(target, letter) for target, (_, letter) in sent]

    def step(self, machine, times=1):
        """Makes steps; returns what was sent by them, tuples (target, letter)."""
        sent = []
        for _ in range(times):
            sent.extend(self.put(machine, self.nodes[machine].step()))
        return sent

    def run(self, machine):
        """Makes steps while the node can."""
        sent = []
        while self.nodes[machine].state() == "run":
            sent.extend(self.step(machine))
        return sent

    def deliver(self, source, target):
        """The next parcel of the row arrives; returns what was sent by it."""
        return self.put(target, self.nodes[target].take(source, self.rows[source, target].pop(0)))

    def under_way(self):
        return sorted(row for row, parcels in self.rows.items() if parcels)

    def deliver_all(self):
        while self.under_way():
            self.deliver(*self.under_way()[0])

    def settle(self):
        """Everybody runs, and all letters arrive, until nothing moves."""
        moved = True
        while moved:
            moved = bool(self.under_way())
            self.deliver_all()
            for machine, node in enumerate(self.nodes):
                before = node.steps()
                self.run(machine)
                moved = moved or node.steps() > before

    def trace(self):
        return [node.events() for node in self.nodes]

    def states(self):
        return [node.state() for node in self.nodes]


def store_row(word, value):
    """The instructions that store the value into the word, by the registers 6 and 7."""
    return [("set", 6, word), ("set", 7, value), ("store", 6, 7)]


def load_row(word):
    """The instructions that load the word into register 5, by register 6."""
    return [("set", 6, word), ("load", 5, 6)]


def next_act(chance, words, held, faults):
    """Some instructions by chance; held is the list of the locks that are held, which changes."""
    kind = chance.random()
    if kind < 0.3:
        return load_row(chance.randrange(words))
    if kind < 0.6:
        return store_row(chance.randrange(words), chance.randrange(1, 1000))
    if kind < 0.72 and not held:
        held.append(chance.randrange(4))
        return [("acquire", held[-1])]
    if kind < 0.76 and held and held[-1] < 3:
        # Ascending, so that no two machines wait for each other.
        held.append(chance.randrange(held[-1] + 1, 4))
        return [("acquire", held[-1])]
    if kind < 0.9 and held:
        return [("release", held.pop(chance.randrange(len(held))))]
    if kind < 0.97 and not held:
        return [("barrier",)]
    if faults and kind > 0.98:
        return [(chance.choice(("acquire", "release")), chance.randrange(4))]
    return [("set", chance.randrange(5), chance.randrange(-2, 9))]


def program_by_chance(chance, words, length=20, faults=True):
    """A program that touches words, and takes locks and barriers; it ends, perhaps with locks held."""
    program, held = [], []
    for _ in range(chance.randrange(length)):
        program.extend(next_act(chance, words, held, faults))
    return program
