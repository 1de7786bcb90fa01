"""Points [6] to [9]: pages, stores, merges and differences."""

import copy
import itertools
import random
import unittest

from commonage.pages import (
    FIRST_CELL, MAX_PAGES, PAGE_WORDS, difference, merge, new_page, page_of, place_of, rows_of, store,
)

HUGE = 10 ** 400
FIRST = (0, (0, 0))


def stored_page():
    """A copy that has had stores and merges: (5, (1, 1)) at 0, (9, (4, 2)) at 2 and (7, (2, 0)) at 3."""
    page = new_page()
    store(page, 0, 5, 1)
    merge(page, [(2, 9, (4, 2)), (3, 6, (1, 3))])
    store(page, 3, 7, 0)
    return page


class Words(unittest.TestCase):
    def test_numbers_of_the_document(self):
        self.assertEqual((PAGE_WORDS, MAX_PAGES, FIRST_CELL), (4, 12, (0, (0, 0))))
        self.assertEqual([type(PAGE_WORDS), type(MAX_PAGES), type(FIRST_CELL)], [int, int, tuple])

    def test_each_word_of_the_greatest_memory(self):
        places = [(page, place) for page in range(12) for place in range(4)]
        self.assertEqual([(page_of(word), place_of(word)) for word in range(48)], places)

    def test_great_words(self):
        self.assertEqual((page_of(48), place_of(48)), (12, 0))
        self.assertEqual((page_of(51), place_of(51)), (12, 3))
        for page in (10 ** 9, HUGE):
            for place in range(4):
                self.assertEqual((page_of(4 * page + place), place_of(4 * page + place)), (page, place))


class NewPage(unittest.TestCase):
    def test_form(self):
        page = new_page()
        self.assertEqual(page, [FIRST, FIRST, FIRST, FIRST])
        self.assertIs(type(page), list)
        self.assertTrue(all(type(cell) is tuple and type(cell[1]) is tuple for cell in page))

    def test_two_are_not_the_same(self):
        one, other = new_page(), new_page()
        self.assertIsNot(one, other)
        store(one, 0, 5, 1)
        merge(one, [(1, 6, (3, 2))])
        one[3] = (8, (9, 9))
        self.assertEqual(other, [FIRST] * 4)
        self.assertEqual(new_page(), [FIRST] * 4)


class Store(unittest.TestCase):
    def stores(self, page, place, value, machine, key):
        """The store returns the key, gives the cell value and key, and leaves the other cells."""
        expected = list(page)
        expected[place] = (value, key)
        result = store(page, place, value, machine)
        self.assertEqual(result, key)
        self.assertEqual([type(result), type(result[0]), type(result[1])], [tuple, int, int])
        self.assertEqual(page, expected)
        self.assertIs(type(page[place]), tuple)

    def test_new_copy(self):
        for place in range(4):
            for machine in range(6):
                self.stores(new_page(), place, 5, machine, (1, machine))

    def test_copy_that_has_had_stores_and_merges(self):
        for machine in range(4):
            self.stores(stored_page(), 0, 8, machine, (2, machine))
            self.stores(stored_page(), 1, 8, machine, (1, machine))
            self.stores(stored_page(), 2, 8, machine, (5, machine))
            self.stores(stored_page(), 3, 8, machine, (3, machine))

    def test_again_and_again(self):
        page = new_page()
        for version in range(1, 20):
            for place in range(4):
                self.stores(page, place, version * place, version % 3, (version, version % 3))

    def test_the_value_that_is_there_already_is_stored_too(self):
        page = new_page()
        self.stores(page, 1, 0, 2, (1, 2))
        self.stores(page, 1, 0, 2, (2, 2))

    def test_value_of_any_size(self):
        page = new_page()
        for version, value in enumerate((HUGE, -HUGE, -1, 0, 2 ** 64), start=1):
            self.stores(page, 2, value, 0, (version, 0))

    def test_version_of_any_size(self):
        page = new_page()
        merge(page, [(1, 0, (HUGE, 3))])
        self.stores(page, 1, 4, 0, (HUGE + 1, 0))

    def test_example(self):
        page = new_page()
        self.stores(page, 2, 5, 1, (1, 1))
        merge(page, ((2, 9, (1, 2)),))
        self.assertEqual(page, [FIRST, FIRST, (9, (1, 2)), FIRST])
        self.stores(page, 2, 6, 1, (2, 1))

    def test_no_two_stores_of_a_word_have_the_same_key(self):
        chance = random.Random(7)
        for machines in (2, 3, 4):
            copies = [new_page() for _ in range(machines)]
            keys = {place: [] for place in range(4)}
            for value in range(400):
                machine, place = chance.randrange(machines), chance.randrange(4)
                if chance.random() < 0.5:
                    merge(copies[machine], rows_of(copies[chance.randrange(machines)]))
                before = copies[machine][place][1]
                keys[place].append(store(copies[machine], place, value, machine))
                self.assertGreater(keys[place][-1], before)
            for found in keys.values():
                self.assertEqual(len(found), len(set(found)))

    def test_a_place_behind_the_last_cell_raises_nothing(self):
        for place in (4, 5, HUGE, -1):
            page = stored_page()
            self.assertEqual(store(page, place, 9, 2), (1, 2))
            self.assertEqual(page, stored_page())


class Merge(unittest.TestCase):
    def merges(self, page, rows, expected):
        """The rows lead to the copy in any order, at once and one at a time, once and twice."""
        kept = copy.deepcopy(rows)
        for order in itertools.permutations(rows):
            for passed in (list(order), tuple(order), [*order, *order], [*order, *order[::-1], *order[:1]]):
                once, step_by_step = list(page), list(page)
                before = copy.deepcopy(passed)
                self.assertIsNone(merge(once, passed))
                self.assertEqual(passed, before)
                for row in passed:
                    merge(step_by_step, [row])
                self.assertEqual(once, expected)
                self.assertEqual(step_by_step, expected)
        self.assertEqual(rows, kept)

    def test_greater_equal_and_less_version(self):
        start = [(1, (3, 1)), FIRST, FIRST, FIRST]
        self.merges(start, [(0, 8, (4, 1))], [(8, (4, 1)), FIRST, FIRST, FIRST])
        self.merges(start, [(0, 8, (4, 0))], [(8, (4, 0)), FIRST, FIRST, FIRST])
        self.merges(start, [(0, 1, (3, 1))], start)
        self.merges(start, [(0, 8, (2, 1))], start)
        self.merges(start, [(0, 8, (2, 3))], start)
        self.merges(start, [(0, 8, (HUGE, 0))], [(8, (HUGE, 0)), FIRST, FIRST, FIRST])

    def test_equal_version_of_another_machine(self):
        start = [FIRST, (1, (3, 1)), FIRST, FIRST]
        self.merges(start, [(1, 8, (3, 2))], [FIRST, (8, (3, 2)), FIRST, FIRST])
        self.merges(start, [(1, 8, (3, 0))], start)

    def test_the_value_does_not_decide(self):
        start = [(50, (1, 0)), (50, (1, 0)), FIRST, FIRST]
        rows = [(0, -50, (2, 0)), (1, 500, (0, 3)), (2, -HUGE, (1, 1))]
        self.merges(start, rows, [(-50, (2, 0)), (50, (1, 0)), (-HUGE, (1, 1)), FIRST])

    def test_each_place(self):
        for place in range(4):
            expected = [FIRST] * 4
            expected[place] = (3, (1, 2))
            self.merges([FIRST] * 4, [(place, 3, (1, 2))], expected)

    def test_several_rows_of_one_place(self):
        rows = [(3, 1, (1, 3)), (3, 2, (2, 0)), (3, 4, (2, 1)), (0, 6, (9, 0))]
        self.merges([FIRST] * 4, rows, [(6, (9, 0)), FIRST, FIRST, (4, (2, 1))])

    def test_no_rows(self):
        self.merges([FIRST] * 4, [], [FIRST] * 4)
        self.merges(stored_page(), [], stored_page())

    def test_first_cells_change_nothing(self):
        self.merges(stored_page(), list(rows_of(new_page())), stored_page())

    def test_rows_of_a_whole_copy(self):
        self.merges([FIRST] * 4, list(rows_of(stored_page())), stored_page())
        self.merges(stored_page(), list(rows_of(stored_page())), stored_page())

    def test_no_key_ever_becomes_less(self):
        chance = random.Random(11)
        page = new_page()
        best = [(0, 0)] * 4
        for value in range(500):
            row = (chance.randrange(4), value, (chance.randrange(30), chance.randrange(4)))
            best[row[0]] = max(best[row[0]], row[2])
            merge(page, [row])
            self.assertEqual([key for _, key in page], best)

    def test_the_copy_is_not_tied_to_the_rows(self):
        rows = [(0, 5, (1, 1))]
        page = new_page()
        merge(page, rows)
        rows[0] = (0, 6, (2, 2))
        self.assertEqual(page[0], (5, (1, 1)))

    def test_a_place_behind_the_last_cell_raises_nothing(self):
        for place in (4, 5, HUGE, -1):
            page = stored_page()
            merge(page, [(place, 9, (9, 2)), (1, 3, (1, 1))])
            self.assertEqual(page, [stored_page()[0], (3, (1, 1)), *stored_page()[2:]])


class Rows(unittest.TestCase):
    def test_new_copy(self):
        rows = rows_of(new_page())
        self.assertEqual(rows, ((0, 0, (0, 0)), (1, 0, (0, 0)), (2, 0, (0, 0)), (3, 0, (0, 0))))
        self.assertEqual([type(rows), *[type(row) for row in rows]], [tuple] * 5)

    def test_stored_copy(self):
        page = stored_page()
        self.assertEqual(rows_of(page), ((0, 5, (1, 1)), (1, 0, (0, 0)), (2, 9, (4, 2)), (3, 7, (2, 0))))
        self.assertEqual(page, stored_page())

    def test_they_do_not_change_with_the_copy(self):
        page = stored_page()
        rows = rows_of(page)
        store(page, 0, 77, 3)
        merge(page, [(1, 8, (8, 8))])
        self.assertEqual(rows, rows_of(stored_page()))


class Difference(unittest.TestCase):
    CELLS = {0: (5, (1, 1)), 1: (-HUGE, (3, 0)), 2: (0, (2, 1)), 3: (4, (7, 2))}

    def test_places_put_in_in_any_order(self):
        for many in range(1, 5):
            for places in itertools.permutations(range(4), many):
                stored = {place: self.CELLS[place] for place in places}
                result = difference(stored)
                expected = tuple((place, *self.CELLS[place]) for place in sorted(places))
                self.assertEqual(result, expected)
                self.assertEqual([type(result), *[type(row) for row in result]], [tuple] * (many + 1))
                self.assertEqual(list(stored), list(places))
                self.assertEqual(stored, {place: self.CELLS[place] for place in places})

    def test_empty(self):
        stored = {}
        self.assertEqual(difference(stored), ())
        self.assertEqual(stored, {})

    def test_the_last_store_of_a_place(self):
        page, stored = new_page(), {}
        for place, value in ((2, 5), (0, 6), (2, 7)):
            key = store(page, place, value, 1)
            stored[place] = (value, key)
        self.assertEqual(difference(stored), ((0, 6, (1, 1)), (2, 7, (2, 1))))

    def test_it_does_not_change_with_the_dict(self):
        stored = {1: (5, (1, 1))}
        rows = difference(stored)
        stored[1] = (6, (2, 1))
        stored[0] = (7, (1, 1))
        self.assertEqual(rows, ((1, 5, (1, 1)),))

    def test_merged_into_another_copy(self):
        page, other = stored_page(), stored_page()
        stored = {}
        for place in (3, 1):
            key = store(page, place, 60 + place, 2)
            stored[place] = (60 + place, key)
        merge(other, difference(stored))
        self.assertEqual(other, page)


if __name__ == "__main__":
    unittest.main()
