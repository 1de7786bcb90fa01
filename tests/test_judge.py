"""Points [44] to [46]: the first fault of a trace, and the loads that differ from a plain memory."""

import collections
import copy
import itertools
import random
import unittest

import oracles
from commonage.judge import differing, first_fault
from commonage.traces import clocks_of, comes_before, one_order, races_of
from plays import Nodes, program_by_chance

NONE = ("", -1, -1)


def store(word, value, version, machine):
    return ("store", word, value, (version, machine))


def load(word, value, version, machine):
    return ("load", word, value, (version, machine))


# Each row: a trace with a single fault, and what the judge says of it.
TRACES = [
    ([], NONE),
    ([[], []], NONE),
    ([[load(1, 0, 0, 0), ("end",)]], NONE),
    ([[store(1, 5, 1, 0), load(1, 5, 1, 0)], [load(1, 5, 1, 0)]], NONE),
    ([[store(1, 5, 1, 0)], [store(1, 6, 1, 1), load(1, 6, 1, 1)]], NONE),
    ([[("acquire", 0, 1), ("release", 0, 1), ("acquire", 0, 2)], [("acquire", 2, 1), ("release", 2, 1)]], NONE),
    ([[("acquire", 0, 1), ("acquire", 1, 1), ("release", 0, 1), ("release", 1, 1)]], NONE),
    # 1. "order"
    ([[("acquire", 0, 2), ("release", 0, 1)]], ("order", -1, -1)),
    ([[("barrier", 1), ("release", 0, 1)], [("acquire", 0, 2)]], ("order", -1, -1)),
    # 2. "lock", the numbers of the acquires
    ([[("acquire", 0, 2)]], ("lock", -1, -1)),
    ([[("acquire", 0, 0)]], ("lock", -1, -1)),
    ([[("acquire", 0, 1)], [("acquire", 0, 1)]], ("lock", -1, -1)),
    ([[("acquire", 0, 1), ("release", 0, 1)], [("acquire", 0, 3)]], ("lock", -1, -1)),
    ([[("acquire", 0, 1)], [("acquire", 1, 2)]], ("lock", -1, -1)),
    # 2. "lock", a release
    ([[("release", 0, 1)]], ("lock", 0, 0)),
    ([[], [("acquire", 0, 1), ("release", 0, 2)]], ("lock", 1, 1)),
    ([[("acquire", 0, 1), ("release", 0, 1), ("release", 0, 1)]], ("lock", 0, 2)),
    ([[("acquire", 0, 1), ("release", 1, 1)]], ("lock", 0, 1)),
    ([[("acquire", 0, 1)], [("release", 0, 1)]], ("lock", 1, 0)),
    ([[("acquire", 0, 1), ("acquire", 0, 2), ("release", 0, 1)]], ("order", -1, -1)),
    ([[("acquire", 0, 1), ("release", 0, 1), ("acquire", 0, 2), ("release", 0, 1)]], ("order", -1, -1)),
    ([[("acquire", 0, 2), ("acquire", 0, 1), ("release", 0, 2)]], ("lock", 0, 2)),
    # 3. "key"
    ([[store(1, 5, 0, 0)]], ("key", 0, 0)),
    ([[], [store(1, 5, -1, 7)]], ("key", 1, 0)),
    ([[store(1, 5, 0, 1)]], NONE),
    ([[store(1, 5, 1, 0)], [store(1, 5, 1, 0)]], ("key", 0, 0)),
    ([[store(1, 5, 1, 0)], [store(2, 5, 1, 0)]], NONE),
    ([[store(1, 5, 2, 0), store(1, 6, 1, 0)]], ("key", 0, 0)),
    ([[store(1, 5, 1, 1), store(1, 6, 1, 0)]], ("key", 0, 0)),
    ([[store(1, 5, 1, 0), store(1, 6, 1, 1)]], NONE),
    ([[("barrier", 1), store(1, 5, 1, 0)], [store(1, 6, 1, 1), ("barrier", 1)]], ("key", 1, 0)),
    ([[store(1, 5, 2, 0)], [store(1, 6, 1, 1)]], NONE),
    # 4. "value"
    ([[load(1, 5, 1, 0)]], ("value", 0, 0)),
    ([[load(1, 1, 0, 0)]], ("value", 0, 0)),
    ([[store(1, 5, 1, 0), load(1, 6, 1, 0)]], ("value", 0, 1)),
    ([[store(1, 5, 1, 0)], [load(2, 5, 1, 0)]], ("value", 1, 0)),
    ([[store(1, 5, 1, 0)], [load(1, 5, 1, 1)]], ("value", 1, 0)),
    # 5. "future"
    ([[load(1, 5, 1, 0), store(1, 5, 1, 0)]], ("future", 0, 0)),
    ([[("barrier", 1), store(1, 5, 1, 0)], [load(1, 5, 1, 0), ("barrier", 1)]], ("future", 1, 0)),
    ([[store(1, 5, 1, 0)], [load(1, 5, 1, 0)]], NONE),
    # 6. "hidden"
    ([[store(1, 5, 1, 0), load(1, 0, 0, 0)]], ("hidden", 0, 1)),
    ([[store(1, 5, 1, 0), store(1, 6, 2, 0), load(1, 5, 1, 0)]], ("hidden", 0, 2)),
    ([[store(1, 5, 1, 0), ("barrier", 1)], [("barrier", 1), load(1, 0, 0, 0)]], ("hidden", 1, 1)),
    (
        [[store(1, 5, 1, 0), ("barrier", 1)], [("barrier", 1), store(1, 6, 2, 1), ("barrier", 2)],
         [("barrier", 1), ("barrier", 2), load(1, 5, 1, 0)]],
        ("hidden", 2, 2),
    ),
    ([[store(1, 5, 1, 0)], [store(1, 6, 1, 1), load(1, 5, 1, 0)]], ("back", 1, 1)),
    ([[store(2, 5, 1, 0), load(1, 0, 0, 0)]], NONE),
    ([[store(1, 5, 1, 0)], [load(1, 0, 0, 0)]], NONE),
    # 7. "back"
    ([[store(1, 5, 1, 0)], [load(1, 5, 1, 0), load(1, 0, 0, 0)]], ("back", 1, 1)),
    ([[store(1, 5, 3, 0)], [load(1, 5, 3, 0), store(1, 6, 2, 1)]], ("back", 1, 1)),
    ([[store(1, 5, 3, 0)], [load(1, 5, 3, 0), load(2, 0, 0, 0)]], NONE),
    (
        [[store(1, 5, 3, 0)], [store(1, 6, 1, 1)], [load(1, 5, 3, 0), load(1, 6, 1, 1), load(1, 5, 3, 0)]],
        ("back", 2, 1),
    ),
]


class FirstFault(unittest.TestCase):
    def test_each_fault(self):
        for trace, expected in TRACES:
            with self.subTest(trace=trace):
                kept = copy.deepcopy(trace)
                fault = first_fault(trace)
                self.assertEqual(fault, expected)
                self.assertEqual([type(part) for part in (fault, *fault)], [tuple, str, int, int])
                self.assertEqual(oracles.first_fault(trace), expected)
                self.assertEqual(trace, kept)

    def test_the_fault_that_is_looked_for_first(self):
        """Two faults on different machines: the order of the faults counts, not that of the machines."""
        order = ["order", "lock", "key", "value", "future", "hidden", "back"]
        shifted = {}
        for trace, (word, machine, _) in TRACES:
            # Words and locks of their own, so that the two traces do not touch each other.
            if word and machine >= 0:
                shifted.setdefault(word, [self.moved(events) for events in trace])
        for trace, (word, machine, index) in TRACES:
            for other, events in shifted.items():
                if word and word != other and not any(event[0] == "barrier" for row in (*trace, *events) for event in row):
                    with self.subTest(trace=trace, other=events):
                        first = order.index(word) < order.index(other)
                        fault = first_fault([*events, *trace])
                        self.assertEqual(fault[0], word if first else other)
                        if first and machine >= 0:
                            self.assertEqual(fault[1:], (machine + len(events), index))

    def moved(self, events):
        moved = []
        for event in events:
            if event[0] in ("acquire", "release"):
                event = (event[0], event[1] + 4, event[2])
            elif event[0] in ("load", "store"):
                event = (event[0], event[1] + 20, *event[2:])
            moved.append(event)
        return moved

    def test_the_first_place_of_a_fault(self):
        wrong = [load(1, 5, 1, 0), load(2, 5, 1, 0)]
        self.assertEqual(first_fault([[], wrong, wrong]), ("value", 1, 0))
        self.assertEqual(first_fault([[("end",)], [("end",)], wrong[1:]]), ("value", 2, 0))
        self.assertEqual(first_fault([[store(1, 1, 1, 0)], [("end",), store(1, 1, 0, 0), store(1, 2, 0, 0)]]), ("key", 1, 1))

    def test_by_the_words_of_the_document(self):
        counts = collections.Counter()
        for seed in range(1500):
            trace = oracles.trace_by_chance(random.Random(seed))
            self.compare(trace, counts)
        for seed in range(60):
            chance = random.Random(seed)
            nodes = Nodes([program_by_chance(chance, 4, 12) for _ in range(1 + seed % 4)])
            nodes.settle()
            self.assertEqual(first_fault(nodes.trace()), NONE)
            if oracles.places_of(nodes.trace()):
                for _ in range(40):
                    trace = oracles.spoilt(chance, nodes.trace())
                    self.compare(trace, counts)
                    self.compare(oracles.spoilt(chance, trace) if oracles.places_of(trace) else trace, counts)
        for word in ("", "order", "lock", "key", "value", "future", "hidden", "back"):
            self.assertGreater(counts[word], 3, counts)
        self.assertGreater(counts["lock", "release"], 20, counts)

    def compare(self, trace, counts):
        fault = oracles.first_fault(trace)
        self.assertEqual(first_fault(trace), fault, trace)
        counts[fault[0]] += 1
        counts[fault[0], "release"] += fault[1] >= 0


class Differing(unittest.TestCase):
    def test_none(self):
        trace = [[load(1, 0, 0, 0), store(1, 5, 1, 0), load(1, 5, 1, 0)]]
        self.assertEqual(differing(trace, [(0, 0), (0, 1), (0, 2)]), [])
        self.assertEqual(differing([], []), [])
        self.assertIs(type(differing([], [])), list)

    def test_orders(self):
        trace = [[store(1, 5, 1, 0), load(1, 5, 1, 0)], [store(1, 6, 1, 1), load(1, 5, 1, 0), ("end",)]]
        for order, expected in [
            ([(0, 0), (0, 1), (1, 0), (1, 1), (1, 2)], [(1, 1)]),
            ([(1, 0), (0, 0), (0, 1), (1, 1), (1, 2)], []),
            ([(1, 0), (1, 1), (1, 2), (0, 0), (0, 1)], [(1, 1)]),
            ([(0, 0), (1, 0), (1, 1), (0, 1), (1, 2)], [(1, 1), (0, 1)]),
            ([(0, 0), (1, 0), (0, 1), (1, 1), (1, 2)], [(0, 1), (1, 1)]),
        ]:
            kept = copy.deepcopy((trace, order))
            self.assertEqual(differing(trace, order), expected)
            self.assertEqual((trace, order), kept)

    def test_the_value_counts_and_not_the_key(self):
        trace = [[store(1, 5, 1, 0)], [load(1, 5, 9, 9), load(2, 0, 7, 7), load(2, 1, 0, 0)]]
        self.assertEqual(differing(trace, [(0, 0), (1, 0), (1, 1), (1, 2)]), [(1, 2)])

    def test_a_part_of_the_events(self):
        trace = [[store(1, 5, 1, 0), store(1, 0, 2, 0), load(1, 5, 1, 0)]]
        self.assertEqual(differing(trace, [(0, 0), (0, 2)]), [])
        self.assertEqual(differing(trace, [(0, 2)]), [(0, 2)])


class OnePlainMemory(unittest.TestCase):
    """Point [46]: without faults and races no load differs, in any order that extends happens-before."""

    def any_order(self, chance, clocks):
        taken, order = [0] * len(clocks), []
        while any(count < len(own) for count, own in zip(taken, clocks)):
            ready = [
                machine for machine, own in enumerate(clocks)
                if taken[machine] < len(own)
                and all(count <= taken[other] for other, count in enumerate(own[taken[machine]]) if other != machine)
            ]
            machine = chance.choice(ready)
            order.append((machine, taken[machine]))
            taken[machine] += 1
        return order

    def test_runs_by_chance(self):
        counts = collections.Counter()
        for seed in range(150):
            chance = random.Random(seed)
            nodes = Nodes([program_by_chance(chance, 12, 8) for _ in range(1 + seed % 4)], 3)
            nodes.settle()
            trace = nodes.trace()
            self.assertEqual(first_fault(trace), NONE)
            clocks = clocks_of(trace)
            orders = [one_order(trace), *[self.any_order(chance, clocks) for _ in range(5)]]
            for order in orders:
                self.assertEqual(sorted(order), oracles.places_of(trace))
                for one, other in itertools.combinations(order[:20], 2):
                    self.assertFalse(comes_before(clocks, other, one))
            is_plain = races_of(trace) == []
            differs = any(differing(trace, order) for order in orders)
            counts[is_plain, differs] += 1
            self.assertFalse(is_plain and differs)
        self.assertGreater(counts[True, False], 30)
        self.assertGreater(counts[False, True], 10)


if __name__ == "__main__":
    unittest.main()
