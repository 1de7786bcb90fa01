"""Points [10] to [12]: homes, and what copies need and have. Point [13] is in test_home_play."""

import copy
import itertools
import random
import unittest

from commonage.clocks import make_record, zero_clock
from commonage.homes import arrived, chosen_homes, first_homes, had, is_fresh, needs, new_held

HUGE = 10 ** 400


def record_of(machine, number, loads=(), stores=()):
    """A record; its clock does not matter to the homes."""
    return make_record(machine, number, (number,) * 4, list(loads), list(stores))


class FirstHomes(unittest.TestCase):
    def test_machines_and_pages(self):
        for machines in range(1, 5):
            for pages in range(1, 13):
                homes = first_homes(machines, pages)
                self.assertEqual(homes, tuple((list(range(machines)) * 12)[:pages]))
                self.assertEqual((type(homes), {type(home) for home in homes}), (tuple, {int}))

    def test_example(self):
        self.assertEqual(first_homes(2, 3), (0, 1, 0))

    def test_beyond_the_limits(self):
        self.assertEqual(first_homes(6, 14), (0, 1, 2, 3, 4, 5, 0, 1, 2, 3, 4, 5, 0, 1))
        self.assertEqual(first_homes(3, 0), ())


class ChosenHomes(unittest.TestCase):
    def chooses(self, homes, records, expected):
        """The homes are those that are expected, in whatever order and way the records are passed."""
        orders = itertools.permutations(records) if len(records) < 6 else [records, records[::-1], sorted(records)]
        for order in orders:
            for passed in (list(order), tuple(order)):
                before = copy.deepcopy(passed)
                result = chosen_homes(homes, passed)
                self.assertEqual(result, expected)
                self.assertEqual((type(result), {type(home) for home in result}), (tuple, {int}))
                self.assertEqual(passed, before)

    def test_example(self):
        self.chooses((0, 1, 0), [record_of(0, 1, [], [1]), record_of(1, 1, [], [2, 8])], (0, 1, 1))

    def test_no_records(self):
        for homes in ((0,), (0, 1, 2, 3), (3, 3, 1)):
            self.chooses(homes, [], homes)

    def test_a_page_that_nobody_stored_keeps_its_home(self):
        self.chooses((2, 1, 0, 3), [record_of(3, 1, [], [5])], (2, 3, 0, 3))
        self.chooses((2, 1, 0, 3), [record_of(3, 1, [], [])], (2, 1, 0, 3))

    def test_a_page_that_one_machine_stored(self):
        for page, machine in itertools.product(range(4), range(4)):
            for word in range(4 * page, 4 * page + 4):
                expected = [2, 1, 0, 3]
                expected[page] = machine
                self.chooses((2, 1, 0, 3), [record_of(machine, 7, [], [word])], tuple(expected))

    def test_a_page_that_several_machines_stored_keeps_its_home(self):
        two = [record_of(0, 1, [], [4]), record_of(1, 1, [], [7])]
        for home in range(4):
            self.chooses((3, home), two, (3, home))
            self.chooses((3, home), [*two, record_of(2, 1, [], [4, 5, 6, 7])], (3, home))

    def test_several_machines_that_stored_the_same_word(self):
        self.chooses((0, 0), [record_of(1, 1, [], [4]), record_of(2, 1, [], [4])], (0, 0))

    def test_several_records_of_one_machine(self):
        rows = [record_of(1, 1, [], [0, 4]), record_of(1, 2, [], [0, 1]), record_of(1, 3, [], [3])]
        self.chooses((0, 0, 0), rows, (1, 1, 0))
        self.chooses((0, 0, 0), [*rows, record_of(2, 9, [], [2])], (0, 1, 0))

    def test_words_that_were_only_loaded_do_not_count(self):
        self.chooses((0, 1), [record_of(2, 1, [0, 1, 4, 5], [])], (0, 1))
        self.chooses((0, 1), [record_of(2, 1, [0], [4]), record_of(3, 1, [4, 0], [])], (0, 2))

    def test_several_words_of_a_page(self):
        self.chooses((0, 1), [record_of(3, 1, [], [4, 5, 6, 7])], (0, 3))

    def test_each_page_by_itself(self):
        rows = [
            record_of(0, 1, [8], [0, 4, 12]), record_of(1, 1, [0], [5, 9]), record_of(2, 1, [], [16, 47]),
            record_of(1, 2, [16], [10]), record_of(0, 2, [46], [13]),
        ]
        homes = (3, 3, 3, 3, 3, 3, 3, 3, 3, 3, 3, 3)
        self.chooses(homes, rows, (0, 3, 1, 0, 2, 3, 3, 3, 3, 3, 3, 2))

    def test_the_home_that_stored_alone_stays_home(self):
        self.chooses((1, 0), [record_of(1, 1, [], [0]), record_of(0, 1, [0], [4])], (1, 0))

    def test_the_homes_that_are_passed_stay(self):
        homes = (0, 1, 0)
        chosen_homes(homes, [record_of(1, 1, [], [0, 8])])
        self.assertEqual(homes, (0, 1, 0))

    def test_words_behind_the_last_page_raise_nothing(self):
        self.chooses((0, 1), [record_of(2, 1, [9], [4, 8, 60])], (0, 2))

    def test_the_definition(self):
        chance = random.Random(3)
        for _ in range(200):
            machines, pages = chance.randrange(1, 6), chance.randrange(1, 14)
            homes = tuple(chance.randrange(machines) for _ in range(pages))
            rows, storers = [], {}
            for number in range(1, chance.randrange(2, 9)):
                machine = chance.randrange(machines)
                words = [[word for word in range(4 * pages) if chance.random() < 0.1] for _ in range(2)]
                rows.append(record_of(machine, number, *words))
                for word in words[1]:
                    storers.setdefault(word // 4, set()).add(machine)
            expected = list(homes)
            for page, found in storers.items():
                if len(found) == 1:
                    expected[page] = min(found)
            self.chooses(homes, rows, tuple(expected))


class Held(unittest.TestCase):
    FUNCTIONS = ((needs, "need", "has"), (arrived, "has", "need"))

    def is_held(self, held, need, has):
        self.assertEqual(held, {"need": need, "has": has})
        self.assertEqual((type(held), type(held["need"]), type(held["has"])), (dict, tuple, tuple))

    def test_new(self):
        for machines in range(1, 6):
            self.is_held(new_held(machines), (0,) * machines, (0,) * machines)

    def test_two_share_nothing(self):
        one, other = new_held(3), new_held(3)
        needs(one, 0, 5)
        arrived(one, 1, 6)
        had(one, (1, 2, 3))
        self.is_held(other, (0, 0, 0), (0, 0, 0))
        self.is_held(new_held(3), (0, 0, 0), (0, 0, 0))

    def test_a_number_that_is_greater_equal_or_less(self):
        for function, changed, other in self.FUNCTIONS:
            for number, count in ((4, 4), (9, 9), (HUGE, HUGE), (3, 3), (2, 3), (1, 3), (0, 3), (-1, 3)):
                for machine in range(4):
                    held = {changed: (3, 3, 3, 3), other: (5, 1, 0, 7)}
                    expected = [3, 3, 3, 3]
                    expected[machine] = count
                    self.assertIsNone(function(held, machine, number))
                    self.assertEqual(held, {changed: tuple(expected), other: (5, 1, 0, 7)})
                    self.assertIs(type(held[changed]), tuple)

    def test_numbers_in_any_order(self):
        for function, changed, other in self.FUNCTIONS:
            for numbers in itertools.permutations((1, 2, 5, 5, 3)):
                held = new_held(2)
                for number in numbers:
                    function(held, 1, number)
                self.assertEqual(held, {changed: (0, 5), other: (0, 0)})

    def test_a_clock_that_is_greater_at_some_machines_and_less_at_others(self):
        for clock, expected in (
            ((0, 0, 0), (5, 1, 3)), ((5, 1, 3), (5, 1, 3)), ((4, 2, 3), (5, 2, 3)), ((6, 0, 4), (6, 1, 4)),
            ((0, 0, 9), (5, 1, 9)), ((HUGE, 1, 2), (HUGE, 1, 3)), ((6, 7, 8), (6, 7, 8)),
        ):
            held = {"need": (7, 0, 2), "has": (5, 1, 3)}
            passed = tuple(clock)
            self.assertIsNone(had(held, passed))
            self.is_held(held, (7, 0, 2), expected)
            self.assertEqual(passed, clock)

    def test_a_clock_that_was_read_does_not_change(self):
        held = new_held(2)
        needs(held, 0, 1)
        arrived(held, 1, 2)
        before = dict(held)
        needs(held, 0, 5)
        arrived(held, 1, 5)
        had(held, (9, 9))
        self.is_held(before, (1, 0), (0, 2))


class Fresh(unittest.TestCase):
    def fresh(self, has, needed, owner, expected):
        held = {"need": (1, 2, 3, 4, 5)[:len(has)], "has": has}
        before = copy.deepcopy(held)
        self.assertIs(is_fresh(held, needed, owner), expected, (has, needed, owner))
        self.assertEqual(held, before)

    def test_new_copy(self):
        for machines in range(1, 6):
            for owner in range(machines):
                held = new_held(machines)
                self.assertIs(is_fresh(held, held["need"], owner), True)
                self.assertIs(is_fresh(held, zero_clock(machines), owner), True)

    def test_each_count_that_is_short(self):
        for machines in range(1, 6):
            has = tuple(range(3, 3 + machines))
            for owner, short in itertools.product(range(machines), repeat=2):
                needed = list(has)
                needed[short] += 1
                self.fresh(has, tuple(needed), owner, owner == short)
                needed[short] = HUGE
                self.fresh(has, tuple(needed), owner, owner == short)

    def test_equal_and_less_counts(self):
        for owner in range(3):
            self.fresh((3, 4, 5), (3, 4, 5), owner, True)
            self.fresh((3, 4, 5), (2, 4, 5), owner, True)
            self.fresh((3, 4, 5), (0, 0, 0), owner, True)

    def test_several_counts(self):
        self.fresh((3, 4, 5), (9, 4, 6), 0, False)
        self.fresh((3, 4, 5), (9, 4, 6), 2, False)
        self.fresh((3, 4, 5), (2, 9, 1), 1, True)
        self.fresh((3, 4, 5), (2, 9, 1), 0, False)
        self.fresh((3, 4, 5), (9, 9, 9), 1, False)

    def test_the_own_need(self):
        held = new_held(3)
        needs(held, 1, 2)
        needs(held, 2, 4)
        for steps, expected in ((((1, 1), (2, 4)), False), (((1, 2),), True), (((1, 7),), True)):
            for machine, number in steps:
                arrived(held, machine, number)
            self.assertIs(is_fresh(held, held["need"], 0), expected)
        needs(held, 1, 8)
        self.assertIs(is_fresh(held, held["need"], 0), False)
        self.assertIs(is_fresh(held, held["need"], 1), True)
        had(held, (0, 8, 0))
        self.assertIs(is_fresh(held, held["need"], 0), True)

    def test_the_need_of_another_copy(self):
        held = new_held(2)
        needs(held, 1, 5)
        self.assertIs(is_fresh(held, (0, 0), 0), True)
        self.assertIs(is_fresh(held, (0, 1), 0), False)
        arrived(held, 1, 1)
        self.assertIs(is_fresh(held, (0, 1), 0), True)
        self.assertIs(is_fresh(held, (9, 1), 0), True)
        self.assertIs(is_fresh(held, (9, 1), 1), False)
        self.assertIs(is_fresh(held, held["need"], 0), False)


if __name__ == "__main__":
    unittest.main()
