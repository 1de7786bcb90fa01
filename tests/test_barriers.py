"""Points [21] to [23]: barriers, and what their master keeps."""

import copy
import itertools
import random
import unittest

from commonage.barriers import clocks_of, come, go_on, is_complete, is_over, new_master
from commonage.clocks import are_unordered, make_record, merged, with_count, zero_clock

HUGE = 10 ** 400


def master_with(come_rows, ended_rows, number, over):
    return {"come": come_rows, "ended": ended_rows, "number": number, "over": over}


class NewMaster(unittest.TestCase):
    def test_keys_and_values(self):
        master = new_master()
        self.assertEqual(master, master_with([], [], 0, False))
        self.assertEqual([type(value) for value in master.values()], [list, list, int, bool])
        self.assertIs(is_over(master), False)
        self.assertEqual(clocks_of(master), {})

    def test_two_share_nothing(self):
        one, other = new_master(), new_master()
        come(one, 0, (3,), True)
        go_on(one, 1)
        self.assertEqual(other, master_with([], [], 0, False))
        self.assertEqual(new_master(), other)

    def test_nobody_has_come(self):
        for machines in range(1, 6):
            self.assertIs(is_complete(new_master(), machines), False)


class Coming(unittest.TestCase):
    def test_any_order(self):
        for machines in range(1, 6):
            for order in itertools.permutations(range(machines)):
                master = new_master()
                rows = []
                for machine in order:
                    self.assertIs(is_complete(master, machines), False)
                    clock = with_count((2,) * machines, machine, 5)
                    rows.append((machine, clock))
                    self.assertIsNone(come(master, machine, clock, False))
                    self.assertEqual(master, master_with(rows, [], 0, False))
                    self.assertEqual(clocks_of(master), dict(rows))
                self.assertIs(is_complete(master, machines), True)
                self.assertIs(is_over(master), False)

    def test_any_order_with_some_that_end(self):
        for order in itertools.permutations(range(3)):
            for ends in itertools.product((False, True), repeat=3):
                master = new_master()
                rows = [(machine, with_count((1, 1, 1), machine, 4)) for machine in order]
                for machine, clock in rows:
                    self.assertIs(is_complete(master, 3), False)
                    come(master, machine, clock, ends[machine])
                ended = [row for row in rows if ends[row[0]]]
                self.assertEqual(master, master_with(rows, ended, 0, False))
                self.assertIs(is_complete(master, 3), True)
                self.assertIs(is_over(master), False)

    def test_all_but_one(self):
        for missing in range(4):
            master = new_master()
            for machine in range(4):
                if machine != missing:
                    come(master, machine, (1, 1, 1, 1), machine == 2)
            self.assertIs(is_complete(master, 4), False)
            self.assertEqual(sorted(clocks_of(master)), [machine for machine in range(4) if machine != missing])
            come(master, missing, (1, 1, 1, 1), False)
            self.assertIs(is_complete(master, 4), True)

    def test_huge_clocks(self):
        master = new_master()
        come(master, 0, (HUGE, 0), False)
        self.assertEqual(clocks_of(master), {0: (HUGE, 0)})

    def test_asking_changes_nothing(self):
        master = new_master()
        come(master, 1, (0, 3), True)
        kept = copy.deepcopy(master)
        for _ in range(2):
            self.assertIs(is_complete(master, 2), False)
            self.assertIs(is_over(master), False)
            self.assertEqual(clocks_of(master), {1: (0, 3)})
            self.assertEqual(master, kept)


class GoingOn(unittest.TestCase):
    def passes(self, master, machines, number, kept):
        self.assertIs(is_complete(master, machines), True)
        passed = go_on(master, machines)
        self.assertEqual((passed, type(passed)), (number, int))
        self.assertEqual(master, kept)
        self.assertEqual([type(value) for value in master.values()], [list, list, int, bool])
        self.assertIs(is_over(master), kept["over"])

    def test_nobody_has_ended(self):
        master = new_master()
        for number in range(1, 6):
            come(master, 1, (number, 7), False)
            come(master, 0, (number, 6), False)
            self.passes(master, 2, number, master_with([], [], number, False))
            self.assertIs(is_complete(master, 2), False)
            self.assertEqual(clocks_of(master), {})

    def test_some_have_ended(self):
        master = new_master()
        come(master, 2, (1, 1, 5), True)
        come(master, 1, (1, 6, 1), False)
        come(master, 0, (7, 1, 1), True)
        ended = [(2, (1, 1, 5)), (0, (7, 1, 1))]
        self.passes(master, 3, 1, master_with(ended, ended, 1, False))
        self.assertIs(is_complete(master, 3), False)
        self.assertEqual(clocks_of(master), {2: (1, 1, 5), 0: (7, 1, 1)})
        for number in (2, 3):
            come(master, 1, (7, 6 + number, 5), False)
            self.assertEqual(clocks_of(master), {2: (1, 1, 5), 0: (7, 1, 1), 1: (7, 6 + number, 5)})
            self.passes(master, 3, number, master_with(ended, ended, number, False))
        come(master, 1, (7, 20, 5), True)
        all_ended = [*ended, (1, (7, 20, 5))]
        self.passes(master, 3, 4, master_with(all_ended, all_ended, 4, True))

    def test_one_after_the_other_ends(self):
        master = new_master()
        ended = []
        for number in range(1, 5):
            for machine in range(number - 1, 4):
                come(master, machine, with_count((0, 0, 0, 0), machine, number), machine == number - 1)
            ended.append((number - 1, with_count((0, 0, 0, 0), number - 1, number)))
            self.passes(master, 4, number, master_with(ended, ended, number, number == 4))
            self.assertIs(is_complete(master, 4), False)

    def test_all_end_at_once(self):
        for machines in range(1, 6):
            master = new_master()
            rows = [(machine, (3,) * machines) for machine in range(machines)]
            for machine, clock in rows:
                come(master, machine, clock, True)
            self.passes(master, machines, 1, master_with(rows, rows, 1, True))

    def test_no_further_barrier_when_it_is_over(self):
        master = new_master()
        come(master, 0, (1, 0), True)
        come(master, 1, (0, 1), True)
        go_on(master, 2)
        kept = copy.deepcopy(master)
        self.assertIs(is_complete(master, 2), False)
        self.assertEqual(go_on(master, 2), 1)
        self.assertEqual(master, kept)
        self.assertIs(is_over(master), True)

    def test_what_was_returned_or_read_does_not_change(self):
        master = new_master()
        come(master, 0, (1, 0), True)
        read = dict(master)
        clocks = clocks_of(master)
        come(master, 1, (0, 4), False)
        full = dict(master)
        go_on(master, 2)
        come(master, 1, (1, 5), True)
        go_on(master, 2)
        self.assertEqual(clocks, {0: (1, 0)})
        self.assertEqual(read, master_with([(0, (1, 0))], [(0, (1, 0))], 0, False))
        self.assertEqual(full, master_with([(0, (1, 0)), (1, (0, 4))], [(0, (1, 0))], 0, False))

    def test_changing_the_clocks_changes_no_master(self):
        master = new_master()
        come(master, 0, (1, 0), True)
        clocks_of(master).clear()
        clocks_of(master)[1] = (0, 1)
        self.assertEqual(master, master_with([(0, (1, 0))], [(0, (1, 0))], 0, False))
        come(master, 1, (0, 1), False)
        go_on(master, 2)
        master["come"].append((1, (5, 5)))
        self.assertEqual(master["ended"], [(0, (1, 0))])


class Epochs(unittest.TestCase):
    def test_only_intervals_of_the_same_epoch_are_unordered(self):
        """Point [23], with machines of which each one ends in some epoch."""
        for seed in range(40):
            chance = random.Random(seed)
            machines = 1 + seed % 4
            master = new_master()
            clocks = [with_count(zero_clock(machines), machine, 1) for machine in range(machines)]
            last = [chance.randrange(1, 5) for _ in range(machines)]
            records = []
            for epoch in range(1, max(last) + 1):
                going = [machine for machine in range(machines) if last[machine] >= epoch]
                for machine in going:
                    clock = clocks[machine]
                    records.append((epoch, make_record(machine, clock[machine], clock, [], [])))
                    come(master, machine, clock, last[machine] == epoch)
                self.assertTrue(is_complete(master, machines))
                passed = zero_clock(machines)
                for clock in clocks_of(master).values():
                    passed = merged(passed, clock)
                self.assertEqual(go_on(master, machines), epoch)
                for machine in going:
                    clocks[machine] = merged(passed, with_count(passed, machine, passed[machine] + 1))
            self.assertTrue(is_over(master))
            for (one_epoch, one), (other_epoch, other) in itertools.combinations(records, 2):
                self.assertEqual(are_unordered(one, other), one_epoch == other_epoch)


if __name__ == "__main__":
    unittest.main()
