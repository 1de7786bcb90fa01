"""Points [4] and [5]: clocks, and the records of intervals."""

import copy
import itertools
import unittest

from commonage.clocks import (
    are_unordered, covered, covers, is_before, is_within, make_record, merged, not_covered, with_count, zero_clock,
)

HUGE = 10 ** 400


def small_clocks(machines):
    return list(itertools.product((0, 1, 2), repeat=machines))


class Clocks(unittest.TestCase):
    def is_clock(self, value, expected):
        self.assertEqual(value, expected)
        self.assertIs(type(value), tuple)
        self.assertTrue(all(type(count) is int for count in value))

    def test_zero_clock(self):
        for machines in range(1, 6):
            self.is_clock(zero_clock(machines), tuple([0] * machines))

    def test_merged(self):
        self.is_clock(merged((1,), (2,)), (2,))
        self.is_clock(merged((2, 0), (1, 1)), (2, 1))
        self.is_clock(merged((2, 1, 0), (1, 3, 0)), (2, 3, 0))
        self.is_clock(merged((HUGE, 0, 5, 7), (HUGE - 1, HUGE, 5, 6)), (HUGE, HUGE, 5, 7))
        self.is_clock(merged((1, 0, 0, 0, 9), (0, 0, 2, 0, 8)), (1, 0, 2, 0, 9))

    def test_merged_is_the_least_clock_above_both(self):
        for machines in (1, 2, 3):
            for one, other in itertools.product(small_clocks(machines), repeat=2):
                both = merged(one, other)
                for clock in small_clocks(machines):
                    is_above = is_within(one, clock) and is_within(other, clock)
                    self.assertEqual(is_within(both, clock), is_above)

    def test_with_count(self):
        for machines in range(1, 6):
            clock = tuple(range(3, 3 + machines))
            for machine in range(machines):
                for count in (0, 1, HUGE):
                    expected = list(clock)
                    expected[machine] = count
                    self.is_clock(with_count(clock, machine, count), tuple(expected))
            self.assertEqual(clock, tuple(range(3, 3 + machines)))

    def test_covers(self):
        for clock in [(3,), (3, 0), (1, 3, 2), (0, 5, 1, 2), (HUGE, 0, HUGE, 1), (1, 2, 3, 4, 5)]:
            for machine, count in enumerate(clock):
                self.assertIs(covers(clock, machine, count - 1), True)
                self.assertIs(covers(clock, machine, count), True)
                self.assertIs(covers(clock, machine, count + 1), False)
                self.assertIs(covers(clock, machine, 0), True)
                self.assertIs(covers(clock, machine, 2 * HUGE), False)

    def test_is_within(self):
        cases = [
            ((1,), (1,), True), ((1,), (2,), True), ((2,), (1,), False),
            ((1, 2), (1, 2), True), ((1, 2), (2, 2), True), ((2, 1), (1, 2), False), ((1, 2), (2, 1), False),
            ((0, 0, 0), (0, 0, 0), True), ((1, 0, 0), (0, 9, 9), False), ((0, 0, 1), (9, 9, 0), False),
            ((0, 1, 0, 2), (0, 1, 1, 2), True), ((0, 1, 2, 2), (0, 1, 1, 2), False),
            ((HUGE, 0, 0, HUGE), (HUGE, 0, 0, HUGE), True), ((HUGE, 0, 0, HUGE), (HUGE, 1, 1, HUGE - 1), False),
        ]
        for one, other, expected in cases:
            with self.subTest(one=one, other=other):
                self.assertIs(is_within(one, other), expected)

    def test_is_within_at_each_machine_alone(self):
        for machines in range(1, 6):
            low = zero_clock(machines)
            for machine in range(machines):
                high = with_count(low, machine, 1)
                self.assertIs(is_within(low, high), True)
                self.assertIs(is_within(high, low), False)


class Records(unittest.TestCase):
    def test_form(self):
        record = make_record(1, 3, (1, 3, 0), [5, 2], [9])
        self.assertEqual(record, (1, 3, (1, 3, 0), (2, 5), (9,)))
        self.assertEqual([type(part) for part in record], [int, int, tuple, tuple, tuple])
        self.assertIs(type(record), tuple)

    def test_words_in_any_order_and_twice(self):
        for loads in itertools.permutations([7, 0, 31, 7, 10]):
            record = make_record(0, 1, (1,), list(loads), [4, 4, 4])
            self.assertEqual(record, (0, 1, (1,), (0, 7, 10, 31), (4,)))
        self.assertEqual(make_record(0, 1, (1,), [], [47, 100, 3, 47])[4], (3, 47, 100))

    def test_no_words(self):
        self.assertEqual(make_record(0, 1, (1, 0), [], []), (0, 1, (1, 0), (), ()))

    def test_a_word_that_is_loaded_and_stored_is_in_both(self):
        self.assertEqual(make_record(0, 1, (1, 0), [2, 1], [3, 2]), (0, 1, (1, 0), (1, 2), (2, 3)))

    def test_the_lists_stay(self):
        loads, stores = [3, 1, 3], [2, 0, 2]
        make_record(0, 1, (1,), loads, stores)
        self.assertEqual((loads, stores), ([3, 1, 3], [2, 0, 2]))

    def test_the_record_does_not_change_with_the_lists(self):
        loads, stores = [3], [2]
        record = make_record(0, 1, (1,), loads, stores)
        loads.append(4)
        stores.clear()
        self.assertEqual(record, (0, 1, (1,), (3,), (2,)))


def record_of(machine, clock, loads=(), stores=()):
    """The record of the interval whose number is in the clock."""
    return make_record(machine, clock[machine], clock, list(loads), list(stores))


class Order(unittest.TestCase):
    def ordered(self, one, other):
        self.assertIs(is_before(one, other), True)
        self.assertIs(is_before(other, one), False)
        self.assertIs(are_unordered(one, other), False)
        self.assertIs(are_unordered(other, one), False)

    def unordered(self, one, other):
        self.assertIs(is_before(one, other), False)
        self.assertIs(is_before(other, one), False)
        self.assertIs(are_unordered(one, other), True)
        self.assertIs(are_unordered(other, one), True)

    def test_example(self):
        self.unordered(record_of(0, (2, 1, 0)), record_of(1, (1, 3, 0)))

    def test_the_clock_of_the_other_one_covers_it(self):
        self.ordered(record_of(0, (2, 1, 0)), record_of(1, (2, 3, 0)))
        self.ordered(record_of(0, (2, 1, 0)), record_of(1, (3, 3, 0)))
        self.ordered(record_of(2, (0, 0, 1)), record_of(0, (1, 0, 1)))
        self.ordered(record_of(0, (HUGE, 0)), record_of(1, (HUGE, 1)))
        self.unordered(record_of(0, (HUGE, 0)), record_of(1, (HUGE - 1, HUGE)))

    def test_one_machine(self):
        self.ordered(record_of(0, (1, 0)), record_of(0, (2, 0)))
        self.ordered(record_of(1, (0, 1)), record_of(1, (7, 9)))
        self.ordered(record_of(0, (1,)), record_of(0, (HUGE,)))

    def test_intervals_of_one_machine_are_never_unordered(self):
        one, other = (0, 5, (1, 0), (), ()), (0, 6, (1, 0), (), ())
        self.assertIs(are_unordered(one, other), False)
        self.assertIs(are_unordered(other, one), False)

    def test_an_interval_with_itself(self):
        for record in [record_of(0, (1,)), record_of(1, (4, 2)), record_of(3, (0, 0, 0, HUGE), [1], [2])]:
            self.assertIs(is_before(record, record), False)
            self.assertIs(are_unordered(record, record), False)
            twin = copy.deepcopy(record)
            self.assertIs(is_before(record, twin), False)
            self.assertIs(are_unordered(record, twin), False)

    def test_same_number_of_different_machines(self):
        self.unordered(record_of(0, (1, 0)), record_of(1, (0, 1)))
        self.ordered(record_of(0, (1, 0)), record_of(1, (1, 1)))
        self.ordered(record_of(1, (0, 1)), record_of(0, (1, 1)))

    def test_words_do_not_matter(self):
        self.ordered(record_of(0, (1, 0), [9], [9]), record_of(1, (1, 1)))
        self.unordered(record_of(0, (1, 0), [1], []), record_of(1, (0, 1), [9], [9]))

    def test_the_definition_for_all_small_clocks(self):
        for machines in (1, 2, 3):
            rows = [record_of(at, clock) for clock in small_clocks(machines) for at in range(machines)]
            for one, other in itertools.product(rows, repeat=2):
                is_same = one[:2] == other[:2]
                before = other[2][one[0]] >= one[1] and not is_same
                behind = one[2][other[0]] >= other[1] and not is_same
                self.assertIs(is_before(one, other), before)
                self.assertIs(are_unordered(one, other), one[0] != other[0] and not before and not behind)


class Chosen(unittest.TestCase):
    # Ascending by machine and number, which is neither the order by number nor the one by clock.
    ROWS = [
        record_of(0, (1, 9, 9), [1], [2]),
        record_of(0, (2, 9, 9)),
        record_of(0, (10, 9, 9)),
        record_of(1, (0, 1, 0), [5]),
        record_of(1, (0, 3, 0)),
        record_of(2, (1, 1, 1), [], [7]),
        record_of(2, (1, 1, 11)),
    ]

    def splits(self, clock, expected):
        """The records at the indexes are covered, the others are not, in whatever way they are passed."""
        inside = [self.ROWS[at] for at in expected]
        outside = [row for at, row in enumerate(self.ROWS) if at not in expected]
        for rows in (self.ROWS, self.ROWS[::-1], self.ROWS[3:] + self.ROWS[:3], self.ROWS[1::2] + self.ROWS[::2]):
            table = {row[:2]: row for row in rows}
            for passed in (list(rows), tuple(rows), table.values()):
                for function, chosen in ((covered, inside), (not_covered, outside)):
                    result = function(passed, clock)
                    self.assertEqual(result, chosen)
                    self.assertIs(type(result), list)
                self.assertEqual(list(passed), list(rows))

    def test_nothing_covered(self):
        self.splits((0, 0, 0), [])

    def test_everything_covered(self):
        self.splits((10, 3, 11), [0, 1, 2, 3, 4, 5, 6])
        self.splits((HUGE, HUGE, HUGE), [0, 1, 2, 3, 4, 5, 6])

    def test_some_covered(self):
        self.splits((1, 0, 0), [0])
        self.splits((9, 0, 0), [0, 1])
        self.splits((0, 1, 0), [3])
        self.splits((2, 2, 10), [0, 1, 3, 5])
        self.splits((0, 3, 11), [3, 4, 5, 6])

    def test_no_records(self):
        for passed in ([], (), {}.values()):
            self.assertEqual(covered(passed, (1, 2)), [])
            self.assertEqual(not_covered(passed, (1, 2)), [])

    def test_one_to_five_machines(self):
        for machines in range(1, 6):
            rows = [record_of(at, (2,) * machines) for at in range(machines)]
            self.assertEqual(covered(rows[::-1], (2,) * machines), rows)
            self.assertEqual(not_covered(rows[::-1], (1,) * machines), rows)
            self.assertEqual(covered(rows, with_count((1,) * machines, 0, 2)), rows[:1])

    def test_the_result_is_a_list_of_its_own(self):
        rows = [record_of(0, (1,)), record_of(0, (2,))]
        for function, clock in ((covered, (2,)), (not_covered, (0,))):
            result = function(rows, clock)
            result.pop()
            self.assertEqual(len(rows), 2)
            self.assertEqual(len(function(rows, clock)), 2)


if __name__ == "__main__":
    unittest.main()
