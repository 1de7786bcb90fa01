"""Points [14] to [17]: the report of races, and which papers of races are right."""

import copy
import itertools
import random
import unittest

from commonage.clocks import make_record
from commonage.races import is_right, report

HUGE = 10 ** 400


def record_of(machine, clock, loads=(), stores=()):
    """The record of the interval whose number is in the clock."""
    return make_record(machine, clock[machine], clock, list(loads), list(stores))


def side_of(record, kind):
    return (*record[:3], kind)


def kind_in(record, word):
    """The kind of point [15], from the words of the record."""
    return "store" if word in record[4] else "load" if word in record[3] else None


def papers_of(records):
    """The papers as the definition has them: all words and all pairs, sorted."""
    papers = []
    words = {word for record in records for word in record[3] + record[4]}
    for word, one, other in itertools.product(words, records, records):
        kinds = (kind_in(one, word), kind_in(other, word))
        unordered = one[2][other[0]] < other[1] and other[2][one[0]] < one[1]
        if one[0] < other[0] and unordered and None not in kinds and "store" in kinds:
            papers.append((word, side_of(one, kinds[0]), side_of(other, kinds[1])))
    return sorted(papers, key=lambda paper: (paper[0], paper[1][:2], paper[2][:2]))


def records_of_a_run(machines, words, seed):
    """The records of a run in which machines touch words, end intervals and hear of each other by chance."""
    chance = random.Random(seed)
    clocks = [[0] * machines for _ in range(machines)]
    records = []
    for _ in range(4 * machines):
        machine = chance.randrange(machines)
        clock = clocks[machine]
        clock[machine] += 1
        if chance.random() < 0.4:
            for at, count in enumerate(clocks[chance.randrange(machines)]):
                clock[at] = max(clock[at], count)
        loads, stores = ([word for word in range(words) if chance.random() < 0.3] for _ in range(2))
        records.append(record_of(machine, tuple(clock), loads, stores))
    chance.shuffle(records)
    return records


def kinds_of(value):
    if isinstance(value, (list, tuple)):
        return (type(value), [kinds_of(part) for part in value])
    return type(value)


# Unordered intervals of two machines, for the cases with one word.
ZERO, ONE = (0, (3, 1)), (1, (2, 4))
OTHER_KINDS = [
    None, True, False, "", "0", "1", "store", "load", b"store", 0.0, 1.0, 2.5, 1j, float("nan"), float("inf"), [], [0],
    (), (0,), {}, {0: 0}, set(), {1}, frozenset(), object(), int, len, range(3), iter([1]), ..., NotImplemented,
]


class Report(unittest.TestCase):
    def reports(self, records, expected):
        """The report of the records in any order is what is expected; what is passed stays."""
        orders = itertools.permutations(records) if len(records) < 6 else [records, records[::-1], sorted(records)]
        for order in orders:
            passed = list(order)
            before = copy.deepcopy(passed)
            result = report(passed)
            self.assertEqual(result, expected)
            self.assertEqual(kinds_of(result), kinds_of(expected))
            self.assertEqual(passed, before)
        self.assertEqual(expected, papers_of(records))

    def both(self, first, second, expected):
        """The report of an interval of machine 0 and an unordered one of machine 1 with these loads and stores."""
        one, other = record_of(*ZERO, *first), record_of(*ONE, *second)
        papers = [(word, side_of(one, kinds[0]), side_of(other, kinds[1])) for word, kinds in expected]
        self.reports([one, other], papers)

    def test_example(self):
        one, other = record_of(0, (1, 0), [], [6]), record_of(1, (0, 1), [6], [])
        self.reports([one, other], [(6, (0, 1, (1, 0), "store"), (1, 1, (0, 1), "load"))])

    def test_kinds(self):
        self.both(([], [6]), ([], [6]), [(6, ("store", "store"))])
        self.both(([], [6]), ([6], []), [(6, ("store", "load"))])
        self.both(([6], []), ([], [6]), [(6, ("load", "store"))])
        self.both(([6], []), ([6], []), [])

    def test_a_word_that_is_loaded_and_stored_is_stored(self):
        self.both(([6], [6]), ([6], []), [(6, ("store", "load"))])
        self.both(([6], []), ([6], [6]), [(6, ("load", "store"))])
        self.both(([6], [6]), ([6], [6]), [(6, ("store", "store"))])
        self.both(([6], [6]), ([], [6]), [(6, ("store", "store"))])

    def test_different_words(self):
        self.both(([1, 2], [3]), ([4], [5]), [])
        self.both(([1], [3]), ([], []), [])
        self.both(([], []), ([], []), [])

    def test_several_words_of_the_same_intervals(self):
        expected = [(1, ("store", "store")), (2, ("load", "store")), (10, ("store", "load"))]
        self.both(([2, 5], [1, 10, 30]), ([5, 10], [1, 2]), expected)

    def test_one_machine(self):
        rows = [record_of(0, (1, 0), [], [6]), record_of(0, (2, 0), [6], [6]), record_of(0, (3, 0), [6], [])]
        self.reports(rows, [])
        self.reports([(1, 1, (0, 1), (), (6,)), (1, 2, (0, 1), (), (6,))], [])

    def test_ordered_intervals(self):
        first = record_of(0, (3, 1), [], [6])
        for clock in ((3, 4), (4, 2), (HUGE, 9)):
            self.reports([first, record_of(1, clock, [6], [6])], [])
        self.reports([first, record_of(1, (0, 1), [6], [6])], [])

    def test_at_the_edge_of_the_clock(self):
        first = record_of(0, (3, 1), [], [6])
        for clock in ((2, 2), (0, 2), (2, HUGE)):
            second = record_of(1, clock, [6], [])
            self.reports([first, second], [(6, side_of(first, "store"), side_of(second, "load"))])

    def test_a_third_interval_in_between_orders_no_others(self):
        rows = [record_of(0, (1, 0, 0), [], [6]), record_of(1, (1, 1, 0), [], [6]), record_of(2, (0, 0, 1), [], [6])]
        expected = [(6, side_of(row, "store"), side_of(rows[2], "store")) for row in rows[:2]]
        self.reports(rows, expected)

    def test_order_of_the_papers(self):
        rows = [
            record_of(0, (2, 0, 0), [], [9, 30]), record_of(0, (10, 0, 0), [], [9]), record_of(1, (0, 2, 0), [], [9]),
            record_of(1, (0, 10, 0), [], [9, 30]), record_of(2, (0, 0, 1), [30], [9]),
        ]
        pairs = [(0, 2), (0, 3), (0, 4), (1, 2), (1, 3), (1, 4), (2, 4), (3, 4)]
        expected = [(9, side_of(rows[one], "store"), side_of(rows[other], "store")) for one, other in pairs]
        expected.append((30, side_of(rows[0], "store"), side_of(rows[3], "store")))
        expected.append((30, side_of(rows[0], "store"), side_of(rows[4], "load")))
        expected.append((30, side_of(rows[3], "store"), side_of(rows[4], "load")))
        self.reports(rows, expected)

    def test_no_records(self):
        self.reports([], [])
        self.reports([record_of(0, (1, 0), [6], [6])], [])

    def test_numbers_of_any_size(self):
        one, other = record_of(0, (HUGE, 0), [], [HUGE]), record_of(1, (HUGE - 1, HUGE), [HUGE], [])
        self.reports([one, other], [(HUGE, side_of(one, "store"), side_of(other, "load"))])

    def test_the_definition_for_runs(self):
        many = 0
        for seed in range(150):
            records = records_of_a_run(2 + seed % 4, 1 + seed % 5, seed)
            papers = papers_of(records)
            many += len(papers)
            self.reports(records, papers)
            self.assertEqual(len(set(papers)), len(papers))
        self.assertGreater(many, 1000)

    def test_a_report_is_a_list_of_its_own(self):
        records = records_of_a_run(3, 3, 1)
        first = report(records)
        expected = copy.deepcopy(first)
        report(records).clear()
        records.clear()
        self.assertNotEqual(first, [])
        self.assertEqual(first, expected)


def with_part(row, at, part):
    return (*row[:at], part, *row[at + 1:])


def parts_of(value, path=()):
    """The paths to all parts of a paper, the parts of its parts included, and the paper itself."""
    paths = [path]
    if isinstance(value, tuple):
        for at, part in enumerate(value):
            paths += parts_of(part, (*path, at))
    return paths


def part_at(value, path):
    for at in path:
        value = value[at]
    return value


def changed_at(value, path, part):
    """The paper with another part at the path."""
    if not path:
        return part
    return with_part(value, path[0], changed_at(value[path[0]], path[1:], part))


class IsRight(unittest.TestCase):
    def is_wrong(self, paper, records):
        before = copy.copy(records)
        self.assertIs(is_right(paper, records), False, paper)
        self.assertEqual(records, before)

    def setUp(self):
        runs = [records_of_a_run(2 + seed % 3, 4, seed) for seed in range(40)]
        self.runs = [records for records in runs if len(papers_of(records)) > 3][:12]
        self.assertEqual({len(records) for records in self.runs}, {8, 12, 16})

    def papers(self):
        """Some papers with their records: the first, the last and a middle one of each run."""
        for records in self.runs:
            papers = report(records)
            for at in sorted({0, len(papers) // 2, len(papers) - 1}):
                yield papers[at], records

    def test_each_paper_of_a_report(self):
        for records in self.runs:
            papers = report(records)
            self.assertGreater(len(papers), 3)
            for paper in papers:
                self.assertIs(is_right(paper, records), True)
                self.assertIs(is_right(copy.deepcopy(paper), records[::-1]), True)

    def test_the_other_records_are_not_looked_at(self):
        for records in self.runs:
            for paper in report(records):
                two = [record for record in records if record[:3] in (paper[1][:3], paper[2][:3])]
                self.assertEqual(len(two), 2)
                self.assertIs(is_right(paper, two), True)
                for one in two:
                    self.is_wrong(paper, [record for record in records if record != one])
                    self.is_wrong(paper, [one])
                self.is_wrong(paper, [])

    def test_each_number_changed(self):
        for paper, records in self.papers():
            right = report(records)
            for path in parts_of(paper):
                part = part_at(paper, path)
                if isinstance(part, int):
                    for other in (part + 1, part - 1, -part - 1, part + HUGE, -HUGE, *range(6)):
                        changed = changed_at(paper, path, other)
                        self.assertIs(is_right(changed, records), changed in right)

    def test_each_kind_changed(self):
        for paper, records in self.papers():
            for side in (1, 2):
                other = "load" if paper[side][3] == "store" else "store"
                for kind in (other, "", "Store", "LOAD", "stores", "both", "load store"):
                    self.is_wrong(changed_at(paper, (side, 3), kind), records)

    def test_a_clock_of_another_interval(self):
        for paper, records in self.papers():
            for side, record in itertools.product((1, 2), records):
                if record[2] != paper[side][2]:
                    self.is_wrong(changed_at(paper, (side, 2), record[2]), records)

    def test_both_sides_exchanged(self):
        for paper, records in self.papers():
            self.is_wrong((paper[0], paper[2], paper[1]), records)
            self.is_wrong((paper[0], paper[1], paper[1]), records)
            self.is_wrong((paper[0], paper[2], paper[2]), records)

    def test_intervals_that_do_not_race(self):
        for records in self.runs:
            right = report(records)
            for one, other in itertools.product(records, repeat=2):
                for word, kind, second in itertools.product(range(5), ("load", "store"), ("load", "store")):
                    paper = (word, side_of(one, kind), side_of(other, second))
                    self.assertIs(is_right(paper, records), paper in right)

    def test_ordered_intervals(self):
        for clock in ((3, 4), (4, 2)):
            records = [record_of(0, (3, 1), [], [6]), record_of(1, clock, [], [6])]
            self.is_wrong((6, *[side_of(record, "store") for record in records]), records)
        records = [record_of(0, (3, 4), [], [6]), record_of(1, (2, 4), [], [6])]
        self.is_wrong((6, *[side_of(record, "store") for record in records]), records)

    def test_two_loads(self):
        records = [record_of(0, (1, 0), [6], []), record_of(1, (0, 1), [6], [])]
        self.is_wrong((6, *[side_of(record, "load") for record in records]), records)

    def test_a_store_that_is_called_a_load(self):
        records = [record_of(0, (1, 0), [6], [6]), record_of(1, (0, 1), [], [6])]
        self.assertIs(is_right((6, side_of(records[0], "store"), side_of(records[1], "store")), records), True)
        self.is_wrong((6, side_of(records[0], "load"), side_of(records[1], "store")), records)

    def test_a_word_that_is_not_touched(self):
        records = [record_of(0, (1, 0), [1], [6]), record_of(1, (0, 1), [6], [2])]
        for word, kind, other in itertools.product((0, 1, 2, 3), ("load", "store", None), ("load", "store", None)):
            self.is_wrong((word, side_of(records[0], kind), side_of(records[1], other)), records)

    def test_one_machine(self):
        records = [(0, 1, (1, 0), (), (6,)), (0, 2, (0, 0), (), (6,))]
        self.is_wrong((6, side_of(records[0], "store"), side_of(records[1], "store")), records)

    def test_each_part_of_another_kind(self):
        for paper, records in self.papers():
            for path in parts_of(paper):
                part = part_at(paper, path)
                for other in OTHER_KINDS:
                    if other != part or type(other) is not type(part):
                        self.is_wrong(changed_at(paper, path, other), records)

    def test_true_and_false_in_the_place_of_numbers(self):
        records = [record_of(0, (1, 0), [], [0, 1]), record_of(1, (0, 1), [0, 1], [])]
        for paper in report(records):
            self.assertIs(is_right(paper, records), True)
            for path in parts_of(paper):
                part = part_at(paper, path)
                if isinstance(part, int):
                    for other in (bool(part), float(part), complex(part), str(part)):
                        self.is_wrong(changed_at(paper, path, other), records)

    def test_lists_in_the_place_of_tuples(self):
        for paper, records in self.papers():
            for path in parts_of(paper):
                part = part_at(paper, path)
                if isinstance(part, tuple):
                    self.is_wrong(changed_at(paper, path, list(part)), records)
                    self.is_wrong(changed_at(paper, path, dict(enumerate(part))), records)

    def test_tuples_that_are_too_short_or_too_long(self):
        for paper, records in self.papers():
            for path in parts_of(paper):
                part = part_at(paper, path)
                if isinstance(part, tuple):
                    for at in range(len(part)):
                        self.is_wrong(changed_at(paper, path, part[:at] + part[at + 1:]), records)
                    for more in (0, None, "store", part):
                        self.is_wrong(changed_at(paper, path, (*part, more)), records)
                    self.is_wrong(changed_at(paper, path, ()), records)

    def test_other_values(self):
        deep = ()
        for _ in range(100000):
            deep = (deep,)
        values = [*OTHER_KINDS, 0, 1, -1, HUGE, (6,) * 3, ((), (), ()), (6, (), ()), (0, None, None), "abc", "abcd"]
        values += [(6, "abcd", "abcd"), (6, (0, 1, (1, 0), "store")), (6, (0, 1, 2, 3), (0, 1, 2, 3)), deep]
        values += [(6, (0, 1, deep, "store"), (1, 1, (0, 1), "load")), (deep, deep, deep)]
        for value in values:
            for records in ([], self.runs[0], self.runs[1]):
                self.is_wrong(value, records)

    def test_a_paper_that_contains_itself(self):
        ring = []
        ring.append(ring)
        for value in (ring, (6, ring, ring), (ring, ring, ring), (6, (0, 1, ring, "store"), (1, 1, ring, "load"))):
            self.is_wrong(value, self.runs[0])

    def test_numbers_of_any_size(self):
        records = [record_of(0, (HUGE, 0), [], [HUGE]), record_of(1, (HUGE - 1, HUGE), [HUGE], [])]
        paper = (HUGE, side_of(records[0], "store"), side_of(records[1], "load"))
        self.assertIs(is_right(paper, records), True)
        self.is_wrong(changed_at(paper, (1, 2, 0), HUGE - 1), records)
        self.is_wrong(changed_at(paper, (0,), -HUGE), records)


if __name__ == "__main__":
    unittest.main()
