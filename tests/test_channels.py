"""Points [24] to [26]: the rows of letters between the machines."""

import copy
import random
import unittest

from commonage.channels import answer, confirm, new_rows, parcels, send, take

HUGE = 10 ** 400


def rows_with(sent, taken, kept):
    return {"sent": sent, "taken": taken, "kept": kept}


def filled(letters=5):
    """The rows of a machine that has sent some letters to machine 1."""
    rows = new_rows(3)
    for number in range(1, letters + 1):
        send(rows, 1, ("letter", number))
    return rows


def parcels_between(first, last):
    return [(number, ("letter", number)) for number in range(first, last + 1)]


class NewRows(unittest.TestCase):
    def test_form(self):
        for machines in range(1, 6):
            rows = new_rows(machines)
            self.assertEqual(rows, rows_with([0] * machines, [0] * machines, [[] for _ in range(machines)]))
            self.assertEqual([type(value) for value in rows.values()], [list, list, list])
            for machine in range(machines):
                self.assertEqual(answer(rows, machine), 0)
                self.assertEqual(parcels(rows, machine), [])

    def test_two_share_nothing(self):
        one, other = new_rows(3), new_rows(3)
        send(one, 1, ("a",))
        take(one, 2, (1, ("b",)))
        self.assertEqual(other, rows_with([0, 0, 0], [0, 0, 0], [[], [], []]))
        self.assertEqual(new_rows(3), other)


class Sending(unittest.TestCase):
    def test_numbers_and_parcels(self):
        rows = new_rows(3)
        self.assertEqual(send(rows, 1, ("a", 5)), (1, ("a", 5)))
        self.assertEqual(rows, rows_with([0, 1, 0], [0, 0, 0], [[], [(1, ("a", 5))], []]))
        parcel = send(rows, 1, ("a", 5))
        self.assertEqual([type(part) for part in (parcel, *parcel)], [tuple, int, tuple])
        self.assertEqual(parcel, (2, ("a", 5)))
        self.assertEqual(rows["kept"][1], [(1, ("a", 5)), (2, ("a", 5))])

    def test_several_machines(self):
        rows = new_rows(4)
        order = [2, 0, 2, 3, 0, 2, 1]
        sent = [send(rows, target, ("n", at)) for at, target in enumerate(order)]
        self.assertEqual([number for number, _ in sent], [1, 1, 2, 1, 2, 3, 1])
        self.assertEqual([letter for _, letter in sent], [("n", at) for at in range(7)])
        self.assertEqual((rows["sent"], rows["taken"]), ([2, 1, 3, 1], [0, 0, 0, 0]))
        for target in range(4):
            expected = [parcel for parcel, to in zip(sent, order) if to == target]
            self.assertEqual(parcels(rows, target), expected)
            self.assertEqual(rows["kept"][target], expected)

    def test_sending_is_not_stopped_by_answers(self):
        rows = filled(3)
        confirm(rows, 1, 3)
        self.assertEqual(send(rows, 1, ("letter", 4)), (4, ("letter", 4)))
        self.assertEqual(parcels(rows, 1), parcels_between(4, 4))


class Taking(unittest.TestCase):
    def test_the_next_one(self):
        rows = new_rows(2)
        for number in range(1, 6):
            self.assertEqual(take(rows, 1, (number, ("letter", number))), ("letter", number))
            self.assertEqual(rows, rows_with([0, 0], [0, number], [[], []]))

    def test_others_are_passed_over(self):
        rows = new_rows(2)
        for number in range(1, 4):
            take(rows, 1, (number, ("letter", number)))
        kept = copy.deepcopy(rows)
        for number in (-1, 0, 1, 2, 3, 5, 6, 100, HUGE):
            self.assertIsNone(take(rows, 1, (number, ("letter", number))))
            self.assertEqual(rows, kept)
        self.assertEqual(take(rows, 1, (4, ("letter", 4))), ("letter", 4))

    def test_the_same_one_twice(self):
        rows = new_rows(2)
        self.assertEqual(take(rows, 1, (1, ("a",))), ("a",))
        self.assertIsNone(take(rows, 1, (1, ("a",))))
        self.assertEqual(rows["taken"], [0, 1])

    def test_rows_of_different_machines(self):
        rows = new_rows(3)
        self.assertIsNone(take(rows, 0, (2, ("a",))))
        self.assertEqual(take(rows, 0, (1, ("a",))), ("a",))
        self.assertIsNone(take(rows, 2, (2, ("b",))))
        self.assertEqual(take(rows, 2, (1, ("b",))), ("b",))
        self.assertEqual(take(rows, 0, (2, ("c",))), ("c",))
        self.assertEqual(rows, rows_with([0, 0, 0], [2, 0, 1], [[], [], []]))

    def test_what_is_sent_and_what_is_taken_do_not_touch_each_other(self):
        rows = filled(2)
        self.assertEqual(take(rows, 1, (1, ("a",))), ("a",))
        self.assertEqual(rows, rows_with([0, 2, 0], [0, 1, 0], [[], parcels_between(1, 2), []]))


class Answering(unittest.TestCase):
    def test_before_and_after_parcels(self):
        rows = new_rows(3)
        self.assertEqual(answer(rows, 2), 0)
        take(rows, 2, (2, ("late",)))
        self.assertEqual(answer(rows, 2), 0)
        for number in range(1, 4):
            take(rows, 2, (number, ("letter", number)))
            self.assertEqual(answer(rows, 2), number)
            take(rows, 2, (1, ("letter", 1)))
            self.assertEqual(answer(rows, 2), number)
        self.assertEqual((answer(rows, 0), answer(rows, 1)), (0, 0))

    def test_answering_changes_nothing(self):
        rows = filled()
        take(rows, 1, (1, ("a",)))
        kept = copy.deepcopy(rows)
        answer(rows, 1)
        parcels(rows, 1)
        self.assertEqual(rows, kept)


class Confirming(unittest.TestCase):
    def test_each_number(self):
        for number in range(9):
            rows = filled()
            self.assertIsNone(confirm(rows, 1, number))
            left = parcels_between(number + 1, 5)
            self.assertEqual(rows, rows_with([0, 5, 0], [0, 0, 0], [[], left, []]))
            self.assertEqual(parcels(rows, 1), left)

    def test_older_answers_after_newer_ones(self):
        rows = filled()
        confirm(rows, 1, 3)
        for number in (2, 0, 3, 1):
            confirm(rows, 1, number)
            self.assertEqual(parcels(rows, 1), parcels_between(4, 5))
        confirm(rows, 1, 5)
        confirm(rows, 1, 4)
        self.assertEqual(parcels(rows, 1), [])

    def test_only_the_row_of_the_target(self):
        rows = new_rows(3)
        for target in (0, 1, 2):
            send(rows, target, ("x",))
        confirm(rows, 1, 1)
        self.assertEqual([parcels(rows, target) for target in range(3)], [[(1, ("x",))], [], [(1, ("x",))]])


class Parcels(unittest.TestCase):
    def test_in_order(self):
        rows = filled(30)
        self.assertEqual(parcels(rows, 1), parcels_between(1, 30))

    def test_what_was_returned_does_not_change(self):
        rows = filled(3)
        before = parcels(rows, 1)
        send(rows, 1, ("letter", 4))
        confirm(rows, 1, 2)
        self.assertEqual(before, parcels_between(1, 3))

    def test_changing_what_was_returned_changes_no_rows(self):
        rows = filled(3)
        parcels(rows, 1).clear()
        self.assertEqual(parcels(rows, 1), parcels_between(1, 3))


class Net:
    """Two or more machines that send letters through a net which loses, doubles and exchanges them."""

    def __init__(self, machines, chance):
        self.chance = chance
        self.rows = [new_rows(machines) for _ in range(machines)]
        self.items = []
        self.sent = {}
        self.taken = {}

    def send(self, source, target, letter):
        self.sent.setdefault((source, target), []).append(letter)
        self.items.append((source, target, "parcel", send(self.rows[source], target, letter)))

    def again(self, source, target):
        self.items.extend((source, target, "parcel", parcel) for parcel in parcels(self.rows[source], target))

    def arrive(self, at):
        source, target, kind, what = self.items.pop(at)
        if kind == "answer":
            confirm(self.rows[target], source, what)
            return
        letter = take(self.rows[target], source, what)
        if letter is not None:
            self.taken.setdefault((source, target), []).append(letter)
        self.items.append((target, source, "answer", answer(self.rows[target], source)))

    def disturb(self):
        at = self.chance.randrange(len(self.items))
        act = self.chance.choice(("arrive", "arrive", "lose", "double", "exchange"))
        if act == "arrive":
            self.arrive(at)
        elif act == "lose":
            self.items.pop(at)
        elif act == "double":
            self.items.append(self.items[at])
        else:
            self.items.append(self.items.pop(at))


class ThroughANet(unittest.TestCase):
    def test_each_letter_once_and_in_order(self):
        for seed in range(60):
            chance = random.Random(seed)
            machines = 2 + seed % 3
            net = Net(machines, chance)
            for turn in range(150):
                source, target = chance.sample(range(machines), 2)
                if chance.random() < 0.3:
                    net.send(source, target, ("letter", turn))
                elif chance.random() < 0.2:
                    net.again(source, target)
                elif net.items:
                    net.disturb()
                for row, letters in net.taken.items():
                    self.assertEqual(letters, net.sent[row][:len(letters)])
            self.finish(net, machines)

    def finish(self, net, machines):
        """Once nothing is lost any longer, all letters get through and no parcel is kept."""
        for source in range(machines):
            for target in range(machines):
                net.again(source, target)
        while net.items:
            net.arrive(0)
        self.assertEqual(net.taken, net.sent)
        for rows in net.rows:
            self.assertEqual(rows["kept"], [[] for _ in range(machines)])


if __name__ == "__main__":
    unittest.main()
