"""Points [27] and [29]: the disks of the machines, and copies of plain values."""

import random
import unittest

from commonage.logs import Disk, copied

HUGE = 10 ** 400

VALUES = [
    0, 1, -7, HUGE, "", "word", None, True, False, (), [], {}, (1, "a", None), [True, False, 2], {"a": 1, 2: None},
    {(1, 2): [3]}, [[], [[]], ()], ([], {}, (1, [2, {"a": (3, [4])}])), {"a": {"b": {"c": [(), [None]]}}},
    ("letter", 4, 1, (2, ("go", 1, (3, 4), ((1, 2, (0, 2), (5,), ()),), (0, 1)))),
]


def parts_of(value):
    """All lists and dicts in a value, the value too."""
    parts = [value] if isinstance(value, (list, dict)) else []
    if isinstance(value, dict):
        value = list(value.values())
    if isinstance(value, (list, tuple)):
        for part in value:
            parts.extend(parts_of(part))
    return parts


def shape_of(value):
    """The value with its kinds, so that True and 1, or a list and a tuple, are not the same."""
    if isinstance(value, (list, tuple)):
        return (type(value), [shape_of(part) for part in value])
    if isinstance(value, dict):
        return (dict, [(shape_of(key), shape_of(part)) for key, part in value.items()])
    return (type(value), value)


def value_by_chance(chance, depth):
    kind = chance.choice(("plain", "list", "tuple", "dict")) if depth else "plain"
    if kind == "plain":
        return chance.choice((0, 1, -3, "a", "", None, True, False, HUGE))
    parts = [value_by_chance(chance, depth - 1) for _ in range(chance.randrange(4))]
    if kind == "dict":
        return {chance.choice((at, str(at), (at, "k"))): part for at, part in enumerate(parts)}
    return parts if kind == "list" else tuple(parts)


def spoil(value):
    """Changes all lists and dicts in a value."""
    for part in parts_of(value):
        if isinstance(part, dict):
            part["spoilt"] = True
        else:
            part.append("spoilt")


def nested(depth):
    value = []
    for at in range(depth):
        value = ([value], (value,), {"in": value})[at % 3]
    return value


class Copied(unittest.TestCase):
    def copies(self, value):
        shape = shape_of(value)
        result = copied(value)
        self.assertEqual(shape_of(result), shape)
        shared = {id(part) for part in parts_of(value)} & {id(part) for part in parts_of(result)}
        self.assertEqual(shared, set())
        spoil(result)
        self.assertEqual(shape_of(value), shape)

    def test_each_kind(self):
        for value in VALUES:
            with self.subTest(value=str(value)[:60]):
                self.copies(value)

    def test_by_chance(self):
        for seed in range(200):
            self.copies(value_by_chance(random.Random(seed), 4))

    def test_deep(self):
        self.copies(nested(100))

    def test_the_order_of_a_dict(self):
        self.assertEqual(list(copied({"b": 1, "a": 2, 0: 3})), ["b", "a", 0])


class NewDisk(unittest.TestCase):
    def test_it_is_empty(self):
        disk = Disk()
        self.assertIsNone(disk.saved())
        self.assertEqual((disk.entries(), type(disk.entries())), ([], list))

    def test_two_share_nothing(self):
        one, other = Disk(), Disk()
        one.save(5)
        one.write(("steps", 1))
        self.assertEqual((other.saved(), other.entries()), (None, []))


class Writing(unittest.TestCase):
    def test_entries_in_order(self):
        disk = Disk()
        written = []
        for value in VALUES:
            self.assertIsNone(disk.write(value))
            written.append(value)
            self.assertEqual(shape_of(disk.entries()), shape_of(written))
            self.assertIsNone(disk.saved())

    def test_the_same_entry_twice(self):
        disk = Disk()
        disk.write(("steps", 4))
        disk.write(("steps", 4))
        self.assertEqual(disk.entries(), [("steps", 4), ("steps", 4)])

    def test_changing_what_was_written_changes_nothing_on_the_disk(self):
        for value in VALUES:
            disk = Disk()
            mine, shape = copied(value), shape_of([value])
            disk.write(mine)
            spoil(mine)
            self.assertEqual(shape_of(disk.entries()), shape)
            spoil(disk.entries())
            self.assertEqual(shape_of(disk.entries()), shape)

    def test_entries_that_were_returned_do_not_change(self):
        disk = Disk()
        disk.write(("steps", 1))
        before = disk.entries()
        disk.write(("steps", 2))
        disk.save(1)
        self.assertEqual(before, [("steps", 1)])


class Saving(unittest.TestCase):
    def test_each_kind(self):
        for value in VALUES:
            disk = Disk()
            self.assertIsNone(disk.save(value))
            self.assertEqual(shape_of(disk.saved()), shape_of(value))
            self.assertEqual(disk.entries(), [])

    def test_the_last_one_stays(self):
        disk = Disk()
        for value in VALUES:
            disk.save(value)
            self.assertEqual(shape_of(disk.saved()), shape_of(value))
            self.assertEqual(shape_of(disk.saved()), shape_of(value))

    def test_a_save_empties_the_log(self):
        disk = Disk()
        disk.write(("steps", 1))
        disk.write(("steps", 2))
        disk.save({"a": 1})
        self.assertEqual((disk.saved(), disk.entries()), ({"a": 1}, []))
        disk.write(("steps", 3))
        self.assertEqual((disk.saved(), disk.entries()), ({"a": 1}, [("steps", 3)]))
        disk.save({"a": 2})
        self.assertEqual((disk.saved(), disk.entries()), ({"a": 2}, []))

    def test_changing_what_was_saved_changes_nothing_on_the_disk(self):
        for value in VALUES:
            disk = Disk()
            mine, shape = copied(value), shape_of(value)
            disk.save(mine)
            spoil(mine)
            self.assertEqual(shape_of(disk.saved()), shape)

    def test_changing_what_was_returned_changes_nothing_on_the_disk(self):
        for value in VALUES:
            disk = Disk()
            disk.save(value)
            shape = shape_of(value)
            spoil(disk.saved())
            self.assertEqual(shape_of(disk.saved()), shape)

    def test_a_save_that_was_returned_does_not_change(self):
        disk = Disk()
        disk.save([1])
        before = disk.saved()
        disk.save([2])
        self.assertEqual(before, [1])


if __name__ == "__main__":
    unittest.main()
