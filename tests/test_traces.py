"""Points [39] to [43]: the clocks, intervals and races of traces."""

import collections
import copy
import itertools
import random
import unittest

import oracles
from commonage.traces import clocks_of, comes_before, intervals_of, one_order, races_of

KEY = (1, 0)
EXAMPLE = [
    [("store", 1, 5, KEY), ("release", 0, 1)],
    [("acquire", 0, 2), ("load", 1, 5, KEY)],
]


def store(word):
    return ("store", word, 5, KEY)


def load(word):
    return ("load", word, 5, KEY)


class Clocks(unittest.TestCase):
    def test_the_example(self):
        self.assertEqual(clocks_of(EXAMPLE), [[(1, 0), (2, 0)], [(2, 1), (2, 2)]])
        self.assertEqual(races_of(EXAMPLE), [])

    def test_empty(self):
        for machines in range(6):
            trace = [[] for _ in range(machines)]
            self.assertEqual(clocks_of(trace), [[] for _ in range(machines)])
            self.assertEqual((races_of(trace), one_order(trace)), ([], []))

    def test_kinds(self):
        clocks = clocks_of(EXAMPLE)
        self.assertEqual([type(part) for part in (clocks, clocks[0], clocks[0][0], clocks[0][0][0])], [list, list, tuple, int])

    def test_machines_without_events(self):
        trace = [[], [store(1), ("end",)], []]
        self.assertEqual(clocks_of(trace), [[], [(0, 1, 0), (0, 2, 0)], []])

    def test_machines_that_do_not_meet(self):
        trace = [[store(1)] * 3, [load(1)] * 2]
        self.assertEqual(clocks_of(trace), [[(1, 0), (2, 0), (3, 0)], [(0, 1), (0, 2)]])

    def test_releases_and_acquires(self):
        trace = [
            [("acquire", 0, 1), ("release", 0, 1), store(1)],
            [store(2), ("acquire", 0, 2), ("release", 0, 2)],
            [("acquire", 0, 3), ("acquire", 1, 2), store(1)],
        ]
        self.assertEqual(clocks_of(trace), [
            [(1, 0, 0), (2, 0, 0), (3, 0, 0)], [(0, 1, 0), (2, 2, 0), (2, 3, 0)], [(2, 3, 1), (2, 3, 2), (2, 3, 3)],
        ])

    def test_only_the_next_number_of_the_same_lock(self):
        for release, acquire, is_tied in [
            ((0, 1), (0, 2), True), ((0, 1), (0, 1), False), ((0, 1), (0, 3), False), ((0, 2), (0, 1), False),
            ((0, 1), (1, 2), False), ((3, 7), (3, 8), True), ((0, 0), (0, 1), True),
        ]:
            trace = [[("release", *release)], [("acquire", *acquire)]]
            self.assertEqual(clocks_of(trace), [[(1, 0)], [(1 if is_tied else 0, 1)]])

    def test_barriers(self):
        trace = [
            [store(0), ("barrier", 1), store(1), ("barrier", 2)], [store(2), store(2), ("barrier", 1), ("barrier", 2)],
        ]
        self.assertEqual(clocks_of(trace), [
            [(1, 0), (2, 2), (3, 2), (4, 3)], [(0, 1), (0, 2), (1, 3), (3, 4)],
        ])

    def test_barriers_that_some_have_not_noted(self):
        trace = [
            [("barrier", 1), ("barrier", 2), store(0)], [store(1), ("barrier", 1), store(1), store(2)],
            [store(3), ("end",)], [],
        ]
        self.assertEqual(clocks_of(trace), [
            [(1, 1, 2, 0), (2, 4, 2, 0), (3, 4, 2, 0)],
            [(0, 1, 0, 0), (0, 2, 2, 0), (0, 3, 2, 0), (0, 4, 2, 0)],
            [(0, 0, 1, 0), (0, 0, 2, 0)], [],
        ])

    def test_a_barrier_as_the_first_event(self):
        self.assertEqual(clocks_of([[("barrier", 1)], [("barrier", 1)]]), [[(1, 0)], [(0, 1)]])

    def test_rings(self):
        for trace in [
            [[("acquire", 0, 2), ("release", 0, 1)]],
            [[("acquire", 0, 3), ("release", 0, 1)], [("acquire", 0, 2), ("release", 0, 2)]],
            [[("acquire", 0, 2), ("release", 1, 1)], [("acquire", 1, 2), ("release", 0, 1)]],
            [[("barrier", 1), ("release", 0, 1)], [("acquire", 0, 2), ("barrier", 1)]],
            [[("barrier", 1), ("release", 0, 1)], [("acquire", 0, 2)]],
            [[store(1)], [("acquire", 0, 2), ("release", 0, 1), store(1)], []],
        ]:
            with self.subTest(trace=trace):
                self.assertIsNone(clocks_of(trace))
                self.assertIsNone(oracles.clocks_of(trace))

    def test_no_ring(self):
        for trace in [
            [[("release", 0, 1), ("acquire", 0, 2)]], [[("acquire", 0, 1), ("release", 0, 1)]],
            [[("barrier", 1), ("acquire", 0, 2)], [("release", 0, 1), ("barrier", 1)]],
            [[("barrier", 1), ("barrier", 2)], [("barrier", 1)]],
        ]:
            self.assertIsNotNone(clocks_of(trace))

    def test_by_the_words_of_the_document(self):
        counts = collections.Counter()
        for seed in range(1500):
            trace = oracles.trace_by_chance(random.Random(seed))
            kept = copy.deepcopy(trace)
            clocks = clocks_of(trace)
            self.assertEqual(clocks, oracles.clocks_of(trace), trace)
            counts["ring" if clocks is None else "clocks"] += 1
            if clocks is not None:
                before = oracles.before_of(trace)
                for one, other in itertools.permutations(oracles.places_of(trace), 2):
                    self.assertIs(comes_before(clocks, one, other), one in before[other])
                races, order = races_of(trace), one_order(trace)
                self.assertEqual(races, oracles.races_of(trace), trace)
                self.assertEqual(order, oracles.one_order(trace), trace)
                counts["races"] += races != []
            self.assertEqual(trace, kept)
        self.assertGreater(min(counts.values()), 30, counts)

    def test_what_was_returned_does_not_change(self):
        clocks = clocks_of(EXAMPLE)
        kept = copy.deepcopy(clocks)
        clocks_of(EXAMPLE)[0].clear()
        self.assertEqual((clocks, clocks_of(EXAMPLE)), (kept, kept))


class ComesBefore(unittest.TestCase):
    def test_on_one_machine_and_on_two(self):
        clocks = clocks_of(EXAMPLE)
        order = [(0, 0), (0, 1), (1, 0), (1, 1)]
        for one, other in itertools.permutations(order, 2):
            self.assertIs(comes_before(clocks, one, other), order.index(one) < order.index(other))

    def test_unordered(self):
        clocks = clocks_of([[store(1), ("barrier", 1), store(1)], [store(1), ("barrier", 1)]])
        for one, other in [((0, 0), (1, 0)), ((0, 1), (1, 1)), ((0, 2), (1, 1))]:
            self.assertIs(comes_before(clocks, one, other), False)
            self.assertIs(comes_before(clocks, other, one), False)
        self.assertIs(comes_before(clocks, (1, 0), (0, 1)), True)
        self.assertIs(comes_before(clocks, (0, 0), (1, 1)), True)


class Intervals(unittest.TestCase):
    def test_each_kind_of_event(self):
        self.assertEqual(intervals_of([]), [])
        self.assertEqual(intervals_of([("end",)]), [1])
        self.assertEqual(intervals_of([store(1), load(1), ("end",)]), [1, 1, 1])
        events = [
            store(0), ("acquire", 0, 1), load(0), store(0), ("release", 0, 1), ("barrier", 1), ("barrier", 2), load(1),
            ("release", 1, 4), ("fault",), store(1),
        ]
        self.assertEqual(intervals_of(events), [1, 1, 2, 2, 2, 3, 4, 5, 5, 6, 6])
        self.assertIs(type(intervals_of(events)), list)

    def test_the_argument_does_not_change(self):
        events = [("barrier", 1), store(1)]
        intervals_of(events)
        self.assertEqual(events, [("barrier", 1), store(1)])


class Races(unittest.TestCase):
    def test_loads_and_stores(self):
        for one, other, races in [
            (store(3), store(3), [(3, (0, 1), (1, 1))]), (load(3), store(3), [(3, (0, 1), (1, 1))]),
            (store(3), load(3), [(3, (0, 1), (1, 1))]), (load(3), load(3), []), (store(3), store(2), []),
        ]:
            self.assertEqual(races_of([[one], [other]]), races)

    def test_one_machine_has_none(self):
        self.assertEqual(races_of([[store(1), load(1), ("barrier", 1), store(1)]]), [])

    def test_each_tuple_once_ascending(self):
        trace = [
            [store(2), store(2), load(2), ("acquire", 0, 1), store(1)], [load(2), store(2), load(1), load(2)], [load(1)],
        ]
        self.assertEqual(races_of(trace), [
            (1, (0, 2), (1, 1)), (1, (0, 2), (2, 1)), (2, (0, 1), (1, 1)),
        ])

    def test_by_interval(self):
        trace = [
            [store(1), ("acquire", 0, 1), store(1), ("release", 0, 1), store(1)],
            [store(1), ("acquire", 0, 2), store(1)],
        ]
        self.assertEqual(races_of(trace), [
            (1, (0, 1), (1, 1)), (1, (0, 2), (1, 1)), (1, (0, 3), (1, 1)), (1, (0, 3), (1, 2)),
        ])

    def test_a_load_before_a_store_of_the_same_interval(self):
        for events in ([load(1), store(1)], [store(1), load(1)]):
            self.assertEqual(races_of([events, [load(1)]]), [(1, (0, 1), (1, 1))])
            self.assertEqual(races_of([[load(1)], events]), [(1, (0, 1), (1, 1))])


class OneOrder(unittest.TestCase):
    def test_the_least_one_first(self):
        self.assertEqual(one_order([[store(1)] * 2, [store(1)] * 2]), [(0, 0), (0, 1), (1, 0), (1, 1)])

    def test_what_has_to_wait(self):
        trace = [[store(0), ("acquire", 0, 2), store(0)], [store(1), ("release", 0, 1), store(1)], [store(2)]]
        self.assertEqual(one_order(trace), [(0, 0), (1, 0), (1, 1), (0, 1), (0, 2), (1, 2), (2, 0)])

    def test_barriers(self):
        trace = [[("barrier", 1), store(0)], [store(1), ("barrier", 1)], [store(1)]]
        self.assertEqual(one_order(trace), [(1, 0), (2, 0), (0, 0), (0, 1), (1, 1)])


if __name__ == "__main__":
    unittest.main()
