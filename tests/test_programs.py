"""Point [3]: what a program is, and what instructions do."""

import copy
import unittest

from commonage.programs import LOCKS, REGISTERS, after, instruction_at, is_program, touch_of

HUGE = 10 ** 400

# The table of the document: r a register, n an integer, p a place, k a lock.
TABLE = {
    "set": "rn", "copy": "rr", "add": "rrr", "sub": "rrr", "mul": "rrr", "load": "rr", "store": "rr",
    "jump": "p", "branch": "rp", "acquire": "k", "release": "k", "barrier": "", "end": "",
}
GOOD = {
    "r": list(range(8)), "n": [0, 1, -1, 7, -8, HUGE, -HUGE], "p": [0, 1, 8, 1000, HUGE], "k": [0, 1, 2, 3],
}
BAD = {"r": [-1, 8, 9, -8, HUGE, -HUGE], "n": [], "p": [-1, -2, -HUGE], "k": [-1, 4, 5, HUGE, -HUGE]}
OTHER_KINDS = [True, False, None, "", "0", "end", b"0", 0.0, 1.0, 1j, [], [0], (), (0,), {}, {0: 0}, set(), object()]


def instruction(word):
    """An instruction of the kind with every part in its bounds."""
    return (word, *[GOOD[kind][0] for kind in TABLE[word]])


def with_part(row, at, part):
    return (*row[:at], part, *row[at + 1:])


class IsProgram(unittest.TestCase):
    def holds(self, row):
        self.assertIs(is_program([row]), True, row)
        self.assertIs(is_program([("end",), row, ("barrier",)]), True, row)

    def fails(self, row):
        self.assertIs(is_program([row]), False, row)
        self.assertIs(is_program([("end",), row]), False, row)
        self.assertIs(is_program([row, ("end",)]), False, row)

    def test_numbers_of_the_document(self):
        self.assertEqual((REGISTERS, LOCKS), (8, 4))
        self.assertEqual((type(REGISTERS), type(LOCKS)), (int, int))

    def test_each_kind_alone_and_all_together(self):
        rows = [instruction(word) for word in TABLE]
        for row in rows:
            self.holds(row)
        self.assertIs(is_program(rows), True)
        self.assertIs(is_program(rows * 50), True)

    def test_empty_list(self):
        self.assertIs(is_program([]), True)

    def test_each_part_in_its_bounds(self):
        for word, kinds in TABLE.items():
            for at, kind in enumerate(kinds):
                for part in GOOD[kind]:
                    self.holds(with_part(instruction(word), at + 1, part))

    def test_each_part_out_of_its_bounds(self):
        for word, kinds in TABLE.items():
            for at, kind in enumerate(kinds):
                for part in BAD[kind]:
                    self.fails(with_part(instruction(word), at + 1, part))

    def test_each_part_of_another_kind(self):
        for word in TABLE:
            row = instruction(word)
            for at in range(1, len(row)):
                for part in OTHER_KINDS:
                    self.fails(with_part(row, at, part))

    def test_each_part_left_out(self):
        for word in TABLE:
            row = instruction(word)
            for at in range(len(row)):
                self.fails(row[:at] + row[at + 1:])

    def test_a_part_added(self):
        for word in TABLE:
            for part in [0, 1, None, *OTHER_KINDS]:
                self.fails((*instruction(word), part))

    def test_words_that_are_not_in_the_table(self):
        words = ["", "End", "END", " end", "end ", "ends", "div", "go", "page", 0, 1, HUGE, *OTHER_KINDS[:5]]
        words += [part for part in OTHER_KINDS if part != "end"]
        for word in words:
            self.fails((word,))
            self.fails((word, 0))
            self.fails((word, 0, 0))
            self.fails((word, 0, 0, 0))

    def test_rows_that_are_no_tuples(self):
        for row in [["end"], ["set", 0, 0], "end", b"end", {"end": 0}, {"end"}, None, True, 0, HUGE, ()]:
            self.fails(row)
        for word in TABLE:
            self.fails(list(instruction(word)))

    def test_a_list_that_contains_itself(self):
        rows = [("end",)]
        rows.append(rows)
        self.assertIs(is_program(rows), False)

    def test_values_that_are_no_lists(self):
        values = [(), (("end",),), ("end",), "", "end", b"", {}, {0: ("end",)}, {("end",)}, set(), None, True, False]
        values += [0, 1, -1, HUGE, 0.5, object(), iter([("end",)]), range(3)]
        for value in values:
            self.assertIs(is_program(value), False, value)

    def test_the_value_stays(self):
        value = [("set", 0, HUGE), ["end"], ("jump", -1)]
        before = copy.deepcopy(value)
        is_program(value)
        self.assertEqual(value, before)


class InstructionAt(unittest.TestCase):
    PROGRAM = [("set", 0, 1), ("barrier",), ("jump", 0)]

    def test_within(self):
        for at, row in enumerate(self.PROGRAM):
            self.assertEqual(instruction_at(self.PROGRAM, at), row)

    def test_at_the_end_and_behind_it(self):
        for place in (3, 4, 5, 1000, 2 ** 63, HUGE):
            self.assertEqual(instruction_at(self.PROGRAM, place), ("end",))

    def test_empty_program(self):
        for place in (0, 1, HUGE):
            self.assertEqual(instruction_at([], place), ("end",))

    def test_below_0_there_is_none(self):
        for place in (-1, -3, -HUGE):
            self.assertEqual(instruction_at(self.PROGRAM, place), ("end",))

    def test_the_program_stays(self):
        program = list(self.PROGRAM)
        instruction_at(program, 1)
        instruction_at(program, 9)
        self.assertEqual(program, self.PROGRAM)


class TouchOf(unittest.TestCase):
    def test_load_takes_the_address_from_its_second_register(self):
        self.assertEqual(touch_of(("load", 1, 2), [0, 3, 6, 0, 0, 0, 0, 0], 8), ("load", 6))

    def test_store_takes_the_address_from_its_first_register(self):
        self.assertEqual(touch_of(("store", 1, 2), [0, 3, 6, 0, 0, 0, 0, 0], 8), ("store", 3))

    def test_addresses_are_taken_modulo_the_words(self):
        cases = [
            (0, 4, 0), (3, 4, 3), (4, 4, 0), (5, 4, 1), (47, 48, 47), (48, 48, 0), (100, 48, 4),
            (-1, 4, 3), (-4, 4, 0), (-5, 4, 3), (-1, 48, 47), (-49, 48, 47),
            (10 ** 30 + 3, 4, 3), (-10 ** 30 - 1, 12, 7), (10 ** 30 + 1, 52, (10 ** 30 + 1) % 52),
        ]
        for address, words, word in cases:
            for number in range(8):
                registers = [0] * 8
                registers[number] = address
                other = (number + 1) % 8
                with self.subTest(address=address, words=words, number=number):
                    self.assertEqual(touch_of(("load", other, number), registers, words), ("load", word))
                    self.assertEqual(touch_of(("store", number, other), registers, words), ("store", word))

    def test_one_register_for_both(self):
        registers = [0, 0, 0, 0, 0, 0, 0, 9]
        self.assertEqual(touch_of(("load", 7, 7), registers, 4), ("load", 1))
        self.assertEqual(touch_of(("store", 7, 7), registers, 4), ("store", 1))

    def test_all_other_kinds_touch_nothing(self):
        for word in TABLE:
            if word not in ("load", "store"):
                self.assertIsNone(touch_of(instruction(word), [5] * 8, 4), word)

    def test_a_register_behind_the_last_one_raises_nothing(self):
        self.assertEqual(touch_of(("load", 0, 8), [5] * 8, 4), ("load", 0))
        self.assertEqual(touch_of(("store", 8, 0), [5] * 8, 4), ("store", 0))
        self.assertEqual(touch_of(("load", 0, 8), [5] * 8 + [3], 4), ("load", 3))

    def test_the_registers_stay(self):
        registers = [-9, 8, 7, 6, 5, 4, 3, 2]
        for word in TABLE:
            touch_of(instruction(word), registers, 4)
        self.assertEqual(registers, [-9, 8, 7, 6, 5, 4, 3, 2])


class After(unittest.TestCase):
    def gives(self, row, registers, place, expected):
        """The call gives what is expected, in a list of its own, and changes no argument."""
        passed = list(registers)
        result = after(row, passed, place)
        self.assertEqual(result, expected, row)
        self.assertEqual((type(result), type(result[0])), (tuple, list))
        self.assertEqual(passed, registers)
        self.assertIsNot(result[0], passed)

    def test_example(self):
        self.gives(("sub", 0, 1, 2), [0, 5, 7, 0, 0, 0, 0, 0], 3, ([-2, 5, 7, 0, 0, 0, 0, 0], 4))

    def test_set(self):
        for number in range(8):
            for value in (0, 1, -1, HUGE, -HUGE):
                expected = [3] * 8
                expected[number] = value
                self.gives(("set", number, value), [3] * 8, 5, (expected, 6))

    def test_copy(self):
        self.gives(("copy", 2, 5), [0, 1, 2, 3, 4, 5, 6, 7], 0, ([0, 1, 5, 3, 4, 5, 6, 7], 1))
        self.gives(("copy", 7, 0), [-HUGE, 1, 2, 3, 4, 5, 6, 7], 9, ([-HUGE, 1, 2, 3, 4, 5, 6, -HUGE], 10))
        self.gives(("copy", 3, 3), [0, 1, 2, 3, 4, 5, 6, 7], 0, ([0, 1, 2, 3, 4, 5, 6, 7], 1))

    def test_sum_difference_and_product(self):
        values = (0, 1, -1, 5, -7, HUGE, 1 - HUGE)
        for first in values:
            for second in values:
                registers = [0, 1, 2, first, 4, second, 6, 7]
                for word, result in (("add", first + second), ("sub", first - second), ("mul", first * second)):
                    expected = ([0, 1, 2, first, 4, second, 6, result], 21)
                    self.gives((word, 7, 3, 5), registers, 20, expected)

    def test_the_result_goes_into_a_register_that_is_read(self):
        registers = [0, 6, 10, 3, 4, 5, 6, 7]
        self.gives(("sub", 1, 1, 2), registers, 0, ([0, -4, 10, 3, 4, 5, 6, 7], 1))
        self.gives(("sub", 2, 1, 2), registers, 0, ([0, 6, -4, 3, 4, 5, 6, 7], 1))
        self.gives(("add", 1, 1, 2), registers, 0, ([0, 16, 10, 3, 4, 5, 6, 7], 1))
        self.gives(("mul", 2, 1, 2), registers, 0, ([0, 6, 60, 3, 4, 5, 6, 7], 1))

    def test_one_register_for_all_parts(self):
        registers = [0, -6, 10, 3, 4, 5, 6, 7]
        self.gives(("add", 1, 1, 1), registers, 0, ([0, -12, 10, 3, 4, 5, 6, 7], 1))
        self.gives(("sub", 1, 1, 1), registers, 0, ([0, 0, 10, 3, 4, 5, 6, 7], 1))
        self.gives(("mul", 1, 1, 1), registers, 0, ([0, 36, 10, 3, 4, 5, 6, 7], 1))
        self.gives(("mul", 0, 1, 1), registers, 0, ([36, -6, 10, 3, 4, 5, 6, 7], 1))

    def test_jump(self):
        for place in (0, 1, 4, 5, HUGE):
            self.gives(("jump", place), [1, 2, 3, 4, 5, 6, 7, 8], 4, ([1, 2, 3, 4, 5, 6, 7, 8], place))

    def test_branch_is_taken_only_above_0(self):
        for number in range(8):
            for value, place in ((1, 2), (2, 2), (HUGE, 2), (0, 8), (-1, 8), (-HUGE, 8)):
                registers = [0 if value > 0 else 1] * 8
                registers[number] = value
                self.gives(("branch", number, 2), registers, 7, (registers, place))

    def test_branch_to_0_and_far_behind(self):
        self.gives(("branch", 0, 0), [1] * 8, 3, ([1] * 8, 0))
        self.gives(("branch", 0, HUGE), [1] * 8, 3, ([1] * 8, HUGE))
        self.gives(("branch", 0, HUGE), [0] * 8, 3, ([0] * 8, 4))

    def test_great_places(self):
        self.gives(("set", 0, 0), [0] * 8, HUGE, ([0] * 8, HUGE + 1))
        self.gives(("branch", 0, 0), [0] * 8, HUGE, ([0] * 8, HUGE + 1))

    def test_a_result_is_not_changed_by_a_later_call(self):
        registers = [0] * 8
        first, place = after(("set", 0, 1), registers, 0)
        second, place = after(("jump", 9), first, place)
        after(("set", 1, 2), second, place)
        second[5] = 5
        self.assertEqual((registers, first), ([0] * 8, [1] + [0] * 7))

    def test_a_register_behind_the_last_one_raises_nothing(self):
        self.gives(("set", 8, 5), [1] * 8, 0, ([1] * 8, 1))
        self.gives(("copy", 0, 8), [1] * 8, 0, ([0] + [1] * 7, 1))
        self.gives(("add", 0, 8, 1), [1] * 8, 0, ([1] * 8, 1))
        self.gives(("sub", 0, 1, 8), [1] * 8, 0, ([1] * 8, 1))
        self.gives(("branch", 8, 5), [1] * 8, 0, ([1] * 8, 1))

    def test_more_registers_than_eight(self):
        self.gives(("set", 8, 5), [1] * 9, 0, ([1] * 8 + [5], 1))
        self.gives(("copy", 0, 8), [1] * 8 + [6], 0, ([6] + [1] * 7 + [6], 1))


if __name__ == "__main__":
    unittest.main()
