"""The whole program: points [1], [13], [20], [23], [26] and [46] in worlds that are disturbed by chance."""

import collections
import itertools
import random
import unittest

from commonage.judge import differing, first_fault
from commonage.traces import clocks_of, comes_before, one_order, races_of
from commonage.world import World
from plays import Nodes, load_row, program_by_chance, store_row

NONE = ("", -1, -1)


def act_by_chance(chance, rough):
    """An act; in a rough world machines save, fall and rise, too."""
    kind, at = chance.random(), chance.randrange(-50, 50)
    if kind < 0.45:
        return ("step", at)
    if kind < 0.78:
        return ("arrive", at)
    if kind < 0.86:
        return (chance.choice(("lose", "double")), at)
    if kind < 0.92:
        return ("again", at)
    if kind < 0.94 or not rough:
        return ("answer", at, chance.randrange(4))
    return (chance.choice(("save", "fall", "rise", "rise")), at)


def epochs_of(events):
    """The epoch of each event of a machine, 0 for the first one."""
    return list(itertools.accumulate((event[0] == "barrier" for event in events), initial=0))[:-1]


def holders_of(trace, lock):
    """The machines of which the last event of the lock is an acquire."""
    last = [[event[0] for event in events if event[0] in ("acquire", "release") and event[1] == lock] for events in trace]
    return [machine for machine, words in enumerate(last) if words[-1:] == ["acquire"]]


class Worlds(unittest.TestCase):
    def test_by_chance(self):
        counts = collections.Counter()
        for seed in range(600):
            with self.subTest(seed=seed):
                chance = random.Random(seed)
                machines, pages = 1 + seed % 4, chance.randrange(1, 4)
                programs = [program_by_chance(chance, 4 * pages, 30) for _ in range(machines)]
                self.settles(World(programs, pages), chance, seed % 3 > 0, counts)
        # Otherwise the acts would not reach what is to be shown.
        for word in ("ended", "fault", "barrier", "races", "none", "down", "late races", "lock", "page"):
            self.assertGreater(counts[word], 5, counts)

    def settles(self, world, chance, rough, counts):
        for _ in range(chance.randrange(12)):
            world.play([act_by_chance(chance, rough) for _ in range(chance.randrange(80))])
            trace = world.trace()
            self.assertEqual(first_fault(trace), NONE)
            for lock in range(4):
                self.assertLessEqual(len(holders_of(trace, lock)), 1)
            counts.update(world.states())
        self.assertIs(world.settle(300), True)
        self.assertEqual(world.net(), [])
        states = world.states()
        counts.update(states)
        self.assertLessEqual(set(states), {"ended", "fault", "lock", "barrier"})
        self.waits(world)
        self.settled(world, states, counts)

    def waits(self, world):
        """Who waits, waits for something that does not come: a lock that is held, or others at a barrier."""
        trace = world.trace()
        for machine, waits in world.waiting():
            self.assertEqual(waits[0], world.states()[machine])
            if waits[0] == "lock":
                self.assertNotIn(holders_of(trace, waits[1]), ([], [machine]))
            else:
                self.assertIn("lock", world.states())

    def settled(self, world, states, counts):
        trace = world.trace()
        self.assertEqual(first_fault(trace), NONE)
        self.locks_exclude_each_other(trace)
        self.epochs_are_ordered(trace)
        races = races_of(trace)
        papers = [(word, one[:2], other[:2]) for word, one, other in world.races()]
        self.assertEqual(sorted(papers), self.races_of_ended_epochs(trace, states))
        self.assertEqual(len(set(papers)), len(papers))
        counts["races" if races else "none"] += 1
        counts["late races"] += len(set(papers)) < len(races)
        if not races:
            self.assertEqual(differing(trace, one_order(trace)), [])

    def races_of_ended_epochs(self, trace, states):
        """The races of the trace, but for those of an epoch that no barrier has ended yet."""
        going = [epochs_of([*events, ("end",)])[-1] for events, state in zip(trace, states) if state in ("lock", "barrier")]
        passed = max(going, default=len(trace) * 1000)
        kept = []
        for word, (machine, interval), other in races_of(trace):
            barriers = [event for event in trace[machine] if event[0] in ("acquire", "release", "barrier")][:interval - 1]
            if sum(event[0] == "barrier" for event in barriers) < passed:
                kept.append((word, (machine, interval), other))
        return kept

    def locks_exclude_each_other(self, trace):
        """Each acquire but the first comes behind the release of the grant before."""
        clocks = clocks_of(trace)
        found = {}
        for machine, events in enumerate(trace):
            for index, event in enumerate(events):
                if event[0] in ("acquire", "release"):
                    self.assertNotIn(event, found)
                    found[event] = (machine, index)
        for (word, lock, number), place in found.items():
            if word == "acquire" and number > 1:
                self.assertTrue(comes_before(clocks, found["release", lock, number - 1], place))

    def epochs_are_ordered(self, trace):
        """Point [23]: any touch of an epoch happens before any touch of a later one."""
        clocks = clocks_of(trace)
        first, last = {}, {}
        for machine, events in enumerate(trace):
            for index, epoch in enumerate(epochs_of(events)):
                if events[index][0] in ("load", "store"):
                    first.setdefault((epoch, machine), (machine, index))
                    last[epoch, machine] = (machine, index)
        for (epoch, _), place in last.items():
            for (later, _), other in first.items():
                if epoch < later:
                    self.assertTrue(comes_before(clocks, place, other))


def counter(lock, word, times):
    """A program that adds 1 to the word so often, under the lock, and loads it behind a barrier."""
    return [
        ("set", 1, word), ("set", 2, times), ("set", 3, 1), ("acquire", lock), ("load", 4, 1), ("add", 4, 4, 3),
        ("store", 1, 4), ("release", lock), ("sub", 2, 2, 3), ("branch", 2, 3), ("barrier",), ("load", 5, 1),
    ]


class Counters(unittest.TestCase):
    def test_how_often_they_were_added_to(self):
        for seed in range(40):
            chance = random.Random(seed)
            machines, lock, word = 1 + seed % 4, seed % 4, chance.randrange(8)
            times = [chance.randrange(1, 7) for _ in range(machines)]
            world = World([counter(lock, word, many) for many in times], 2)
            world.play([act_by_chance(chance, seed % 2 == 1) for _ in range(chance.randrange(400))])
            self.assertIs(world.settle(500), True)
            self.assertEqual(world.states(), ["ended"] * machines)
            for events in world.trace():
                self.assertEqual(events[-2][:3], ("load", word, sum(times)))
            stores = sorted(event for events in world.trace() for event in events if event[0] == "store")
            self.assertEqual([event[2] for event in stores], list(range(1, sum(times) + 1)))
            self.assertEqual((world.races(), races_of(world.trace()), first_fault(world.trace())), ([], [], NONE))
            self.assertEqual([world.word(machine, word)[0] for machine in range(machines)], [sum(times)] * machines)

    def test_two_counters_under_two_locks(self):
        one, other = counter(0, 1, 4), counter(1, 1, 5)
        apart = [row if row != ("set", 1, 1) else ("set", 1, 2) for row in other]
        world = World([one, apart, one, apart], 1)
        self.assertIs(world.settle(300), True)
        self.assertEqual([events[-2][2] for events in world.trace()], [8, 10, 8, 10])

    def test_without_a_lock_there_are_races(self):
        bare = [row if row[0] not in ("acquire", "release") else ("set", 0, 0) for row in counter(0, 1, 3)]
        world = World([bare, bare], 1)
        self.assertIs(world.settle(300), True)
        papers = [(1, (0, 1, (1, 0), "store"), (1, 1, (0, 1), "store"))]
        self.assertEqual((world.races(), first_fault(world.trace())), (papers, NONE))

    def test_under_two_locks_there_are_races(self):
        world = World([counter(0, 1, 1), counter(1, 1, 1)], 1)
        self.assertIs(world.settle(300), True)
        self.assertEqual([paper[1:] for paper in world.races()], [
            ((0, 2, (2, 0), "store"), (1, 2, (0, 2), "store")),
        ])


class Barriers(unittest.TestCase):
    def test_each_machine_reads_what_its_neighbour_wrote(self):
        """A ring of words, each written anew in each epoch by one machine, so that homes move; no races."""
        for machines in range(1, 5):
            programs = []
            for machine in range(machines):
                program = []
                for turn in range(5):
                    program.extend([*store_row(4 * ((machine + turn) % machines), 10 * turn + machine), ("barrier",)])
                    program.extend([*load_row(4 * ((machine + turn + 1) % machines)), ("barrier",)])
                programs.append(program)
            for seed in range(8):
                chance = random.Random(seed)
                world = World(programs, machines)
                world.play([act_by_chance(chance, seed % 2 == 1) for _ in range(100 * seed)])
                self.assertIs(world.settle(300), True)
                for machine, events in enumerate(world.trace()):
                    loads = [event[2] for event in events if event[0] == "load"]
                    self.assertEqual(loads, [10 * turn + (machine + 1) % machines for turn in range(5)])
                self.assertEqual((world.races(), world.states()), ([], ["ended"] * machines))


class Locks(unittest.TestCase):
    def test_who_asked_first_is_granted_first(self):
        """Point [20], by the order in which the managers are asked."""
        waits = 0
        for seed in range(60):
            chance = random.Random(seed)
            machines = 1 + seed % 4
            nodes = Nodes([program_by_chance(chance, 8, 60, False) for _ in range(machines)], 2)
            asked = collections.defaultdict(list)
            for _ in range(800):
                machine = chance.randrange(machines)
                rows = [row for row in nodes.under_way() if row[1] == machine]
                if rows and chance.random() < 0.5:
                    row = chance.choice(rows)
                    letter = nodes.rows[row][0][1]
                    if letter[0] == "ask_lock":
                        asked[letter[1]].append(row[0])
                    nodes.deliver(*row)
                else:
                    self.step(nodes, machine, asked)
                waits += sum(node.state() == "lock" for node in nodes.nodes)
            for lock, machines_asked in asked.items():
                granted = sorted(
                    (event[2], machine) for machine, events in enumerate(nodes.trace()) for event in events
                    if event[:2] == ("acquire", lock)
                )
                # Grants that are under way are not noted yet.
                for number, machine in granted:
                    self.assertEqual(machine, machines_asked[number - 1])
        self.assertGreater(waits, 500)

    def step(self, nodes, machine, asked):
        """A step of a node; it may ask itself for a lock that it manages."""
        node = nodes.nodes[machine]
        before = len(node.events())
        was_running = node.state() == "run"
        nodes.step(machine)
        last = node.events()[before:][-1:]
        lock = None
        if was_running and node.state() == "lock":
            lock = node.waits_for()[1]
        elif last and last[0][0] == "acquire":
            lock = last[0][1]
        if lock is not None and lock % len(nodes.nodes) == machine:
            asked[lock].append(machine)


if __name__ == "__main__":
    unittest.main()
