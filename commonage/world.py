"""The world: machines with their programs and disks, and the net between them (points [47] to [50])."""

from commonage.errors import NotValid
from commonage.logs import Disk
from commonage.nodes import Node
from commonage.pages import MAX_PAGES, PAGE_WORDS, page_of, place_of
from commonage.programs import is_program, is_whole

MAX_MACHINES = 4
STEPS_OF_A_ROUND = 20


def are_programs(value):
    """True if the value, which may be anything, is a list of as many programs as a world can have."""
    if not isinstance(value, list) or not 1 <= len(value) <= MAX_MACHINES:
        return False
    return all([is_program(program) for program in value])


def is_number_of_pages(value):
    """True if the value, which may be anything, is a number of pages that a world can have."""
    return is_whole(value) and 1 <= value <= MAX_PAGES


class World:
    """Machines that are up or down, and the items of the net."""

    def __init__(self, programs, pages):
        if not are_programs(programs) or not is_number_of_pages(pages):
            raise NotValid()
        self._programs = [list(program) for program in programs]
        self._pages = pages
        self._disks = [Disk() for _ in programs]
        # None stands for a machine that is down.
        self._nodes = [None for _ in programs]
        # By machine the events that it had when it fell.
        self._past = [[] for _ in programs]
        self._on_way = []
        for machine in range(len(programs)):
            self._rise(machine)

    def _send(self, source, sent):
        """Puts into the net what a machine has sent."""
        self._on_way.extend([(source, target, "parcel", parcel) for target, parcel in sent])

    def _step(self, machine):
        """The machine makes a step."""
        node = self._nodes[machine]
        if node is None or node.state() != "run":
            return False
        self._send(machine, node.step())
        return True

    def _take_item(self, item):
        """An item arrives; returns True if its letter is taken."""
        source, target, kind, what = item
        node = self._nodes[target]
        if node is None:
            return False
        if kind == "answer":
            node.confirm(source, what)
            return False
        before = node.answer(source)
        self._send(target, node.take(source, what))
        self._answer(target, source)
        return node.answer(source) > before

    def _take_out(self, index):
        """Takes an item out of the net."""
        return self._on_way.pop(index % len(self._on_way))

    def _arrive(self, index):
        """An item arrives."""
        if len(self._on_way) == 0:
            return False
        self._take_item(self._take_out(index))
        return True

    def _lose(self, index):
        """An item is lost."""
        if len(self._on_way) == 0:
            return False
        self._take_out(index)
        return True

    def _double(self, index):
        """An item is doubled."""
        if len(self._on_way) == 0:
            return False
        self._on_way.append(self._on_way[index % len(self._on_way)])
        return True

    def _again(self, machine):
        """The machine sends again what it keeps."""
        node = self._nodes[machine]
        if node is None:
            return False
        before = len(self._on_way)
        for target in range(len(self._nodes)):
            self._send(machine, [(target, parcel) for parcel in node.again(target)])
        return len(self._on_way) > before

    def _answer(self, machine, source):
        """The machine answers the source."""
        node = self._nodes[machine]
        if node is None or machine == source:
            return False
        self._on_way.append((machine, source, "answer", node.answer(source)))
        return True

    def _save(self, machine):
        """The machine writes a save."""
        node = self._nodes[machine]
        if node is None:
            return False
        node.save()
        return True

    def _fall(self, machine):
        """The machine is down."""
        node = self._nodes[machine]
        if node is None:
            return False
        self._past[machine] = node.events()
        self._nodes[machine] = None
        return True

    def _rise(self, machine):
        """The machine comes back, as far as its disk tells."""
        if self._nodes[machine] is not None:
            return False
        machines = len(self._programs)
        self._nodes[machine] = Node(machine, machines, self._programs[machine], self._pages, self._disks[machine])
        return True

    def _act(self, act):
        """Plays an act; returns whether it changed something."""
        machines = len(self._programs)
        match act:
            case ("step", machine):
                return self._step(machine % machines)
            case ("arrive", index):
                return self._arrive(index)
            case ("lose", index):
                return self._lose(index)
            case ("double", index):
                return self._double(index)
            case ("again", machine):
                return self._again(machine % machines)
            case ("answer", machine, source):
                return self._answer(machine % machines, source % machines)
            case ("save", machine):
                return self._save(machine % machines)
            case ("fall", machine):
                return self._fall(machine % machines)
            case ("rise", machine):
                return self._rise(machine % machines)
            case _:
                return False

    def play(self, acts):
        """Plays the acts; returns the list of True or False, whether each one changed something."""
        return [self._act(act) for act in acts]

    def _steps(self, machine):
        """The machine makes the steps of a round; returns True if it made one."""
        made = [self._step(machine) for _ in range(STEPS_OF_A_ROUND)]
        return any(made)

    def _arrive_all(self):
        """All items arrive until the net is empty; returns True if a letter was taken."""
        taken = False
        while len(self._on_way) > 0:
            if self._take_item(self._take_out(0)):
                taken = True
        return taken

    def _play_round(self):
        """Plays a round; returns True if a step was made or a letter was taken."""
        machines = range(len(self._programs))
        for machine in machines:
            self._rise(machine)
        moved = [self._steps(machine) for machine in machines]
        moved.append(self._arrive_all())
        for machine in machines:
            self._again(machine)
        moved.append(self._arrive_all())
        for machine in machines:
            for source in machines:
                self._answer(machine, source)
        moved.append(self._arrive_all())
        return any(moved)

    def settle(self, rounds):
        """Plays up to so many rounds; returns True if it ended because nothing moved."""
        for _ in range(rounds):
            if not self._play_round():
                return True
        return False

    def trace(self):
        """The list of the lists of the events of each machine."""
        return [
            list(self._past[machine]) if node is None else node.events() for machine, node in enumerate(self._nodes)
        ]

    def races(self):
        """The list of the papers of the races that machine 0 has found."""
        node = self._nodes[0]
        return [] if node is None else node.races()

    def states(self):
        """The list of the states of the machines."""
        return ["down" if node is None else node.state() for node in self._nodes]

    def waiting(self):
        """The list of the tuples (machine, what it waits for) of the machines that wait."""
        up = [(machine, node) for machine, node in enumerate(self._nodes) if node is not None]
        return [(machine, node.waits_for()) for machine, node in up if node.waits_for() is not None]

    def net(self):
        """The list of the items."""
        return list(self._on_way)

    def word(self, machine, address):
        """The cell of a word on the copy of a machine, None if it is down."""
        node = self._nodes[machine % len(self._nodes)]
        if node is None:
            return None
        word = address % (self._pages * PAGE_WORDS)
        return node.copy_of(page_of(word))[place_of(word)]
