"""Points [18] to [20]: locks, whom they are granted to, and what their managers keep."""

import collections
import random
import unittest

from commonage.locks import ask, let_go, manager_of, new_lock

HUGE = 10 ** 400


def lock_with(holder, queue, clock, grants):
    return {"holder": holder, "queue": queue, "clock": clock, "grants": grants}


class Managers(unittest.TestCase):
    def test_each_lock_and_number_of_machines(self):
        expected = {1: [0, 0, 0, 0], 2: [0, 1, 0, 1], 3: [0, 1, 2, 0], 4: [0, 1, 2, 3]}
        for machines, managers in expected.items():
            self.assertEqual([manager_of(lock, machines) for lock in range(4)], managers)

    def test_beyond_the_limits(self):
        self.assertEqual([manager_of(lock, 5) for lock in range(7)], [0, 1, 2, 3, 4, 0, 1])
        self.assertEqual(manager_of(HUGE + 3, 4), 3)


class NewLock(unittest.TestCase):
    def test_form(self):
        for machines in range(1, 6):
            lock = new_lock(machines)
            self.assertEqual(lock, lock_with(None, [], (0,) * machines, 0))
            kinds = {name: type(value) for name, value in lock.items()}
            self.assertEqual(kinds, {"holder": type(None), "queue": list, "clock": tuple, "grants": int})

    def test_two_share_nothing(self):
        one, other = new_lock(2), new_lock(2)
        for machine in (0, 1, 0):
            ask(one, machine, (1, 1))
        self.assertEqual(other, lock_with(None, [], (0, 0), 0))
        self.assertEqual(new_lock(2), other)


class Grants(unittest.TestCase):
    def asks(self, lock, machine, clock, expected, kept):
        """The machine asks: what is returned, and what the lock holds afterwards."""
        self.gives(ask(lock, machine, clock), expected, lock, kept)

    def lets_go(self, lock, clock, expected, kept):
        self.gives(let_go(lock, clock), expected, lock, kept)

    def gives(self, result, expected, lock, kept):
        self.assertEqual(result, expected)
        if expected is not None:
            self.assertEqual([type(part) for part in (result, *result)], [tuple, int, tuple, int, tuple])
        self.assertEqual(lock, kept)
        self.assertEqual((type(lock["queue"]), type(lock["clock"])), (list, tuple))
        self.assertTrue(all(type(row) is tuple for row in lock["queue"]))

    def test_free_lock(self):
        for machines in range(1, 6):
            zero = (0,) * machines
            for machine in range(machines):
                clock = tuple(range(4, 4 + machines))
                self.asks(
                    new_lock(machines), machine, clock, (machine, clock, 1, zero), lock_with(machine, [], zero, 1),
                )

    def test_empty_queue(self):
        lock = new_lock(2)
        ask(lock, 1, (0, 3))
        self.lets_go(lock, (2, 5), None, lock_with(None, [], (2, 5), 1))
        self.asks(lock, 0, (4, 0), (0, (4, 0), 2, (2, 5)), lock_with(0, [], (2, 5), 2))
        self.lets_go(lock, (6, 5), None, lock_with(None, [], (6, 5), 2))
        self.asks(lock, 0, (7, 5), (0, (7, 5), 3, (6, 5)), lock_with(0, [], (6, 5), 3))

    def test_one_that_waits(self):
        lock = new_lock(2)
        ask(lock, 0, (1, 0))
        self.asks(lock, 1, (0, 1), None, lock_with(0, [(1, (0, 1))], (0, 0), 1))
        self.lets_go(lock, (3, 0), (1, (0, 1), 2, (3, 0)), lock_with(1, [], (3, 0), 2))
        self.lets_go(lock, (3, 4), None, lock_with(None, [], (3, 4), 2))

    def test_several_that_wait(self):
        lock = new_lock(4)
        ask(lock, 2, (0, 0, 9, 0))
        self.asks(lock, 3, (0, 0, 0, 5), None, lock_with(2, [(3, (0, 0, 0, 5))], (0,) * 4, 1))
        self.asks(lock, 0, (7, 0, 0, 0), None, lock_with(2, [(3, (0, 0, 0, 5)), (0, (7, 0, 0, 0))], (0,) * 4, 1))
        queue = [(3, (0, 0, 0, 5)), (0, (7, 0, 0, 0)), (1, (0, 2, 0, 0))]
        self.asks(lock, 1, (0, 2, 0, 0), None, lock_with(2, queue, (0,) * 4, 1))
        first, second, third = (0, 0, 11, 0), (0, 0, 11, 6), (8, 0, 11, 6)
        self.lets_go(lock, first, (3, (0, 0, 0, 5), 2, first), lock_with(3, queue[1:], first, 2))
        self.lets_go(lock, second, (0, (7, 0, 0, 0), 3, second), lock_with(0, queue[2:], second, 3))
        again = [(1, (0, 2, 0, 0)), (2, (0, 0, 12, 0))]
        self.asks(lock, 2, (0, 0, 12, 0), None, lock_with(0, again, second, 3))
        self.lets_go(lock, third, (1, (0, 2, 0, 0), 4, third), lock_with(1, again[1:], third, 4))
        self.lets_go(lock, (8, 3, 11, 6), (2, (0, 0, 12, 0), 5, (8, 3, 11, 6)), lock_with(2, [], (8, 3, 11, 6), 5))

    def test_the_clock_of_the_last_release_is_the_one_that_was_passed(self):
        lock = new_lock(2)
        ask(lock, 0, (5, 5))
        self.lets_go(lock, (9, 1), None, lock_with(None, [], (9, 1), 1))
        ask(lock, 1, (0, 2))
        self.lets_go(lock, (1, 9), None, lock_with(None, [], (1, 9), 2))

    def test_asking_for_a_held_lock_changes_only_the_queue(self):
        lock = new_lock(3)
        ask(lock, 1, (0, 1, 0))
        let_go(lock, (0, 2, 0))
        ask(lock, 2, (0, 0, 1))
        self.asks(lock, 1, (0, HUGE, 0), None, lock_with(2, [(1, (0, HUGE, 0))], (0, 2, 0), 2))

    def test_a_grant_and_a_queue_that_were_read_do_not_change(self):
        lock = new_lock(3)
        grant = ask(lock, 0, (1, 0, 0))
        ask(lock, 1, (0, 1, 0))
        before = dict(lock)
        ask(lock, 2, (0, 0, 1))
        second = let_go(lock, (2, 0, 0))
        let_go(lock, (2, 2, 0))
        self.assertEqual(grant, (0, (1, 0, 0), 1, (0, 0, 0)))
        self.assertEqual(second, (1, (0, 1, 0), 2, (2, 0, 0)))
        self.assertEqual(before, lock_with(0, [(1, (0, 1, 0))], (0, 0, 0), 1))


class Order(unittest.TestCase):
    def play(self, machines, seed):
        """Machines ask and let go by chance; returns how often one had to wait."""
        chance = random.Random(seed)
        lock, waits = new_lock(machines), 0
        asked, clocks, holder, grants, released = collections.deque(), {}, None, 0, (0,) * machines
        for turn in range(300):
            clock = tuple(chance.randrange(100) for _ in range(machines))
            free = [machine for machine in range(machines) if machine not in clocks]
            if free and (holder is None or chance.random() < 0.6):
                machine = chance.choice(free)
                asked.append(machine)
                clocks[machine] = clock
                grant = ask(lock, machine, clock)
                waits += grant is None
                self.assertEqual(grant is None, holder is not None)
            else:
                del clocks[asked.popleft()]
                released, holder = clock, None
                grant = let_go(lock, clock)
                self.assertEqual(grant is None, not asked)
            if grant is not None:
                # Who asked first is granted first, with the clock of that asking.
                holder, grants = asked[0], grants + 1
                self.assertEqual(grant, (holder, clocks[holder], grants, released))
            queue = [(machine, clocks[machine]) for machine in list(asked)[1:]]
            self.assertEqual(lock, lock_with(holder, queue, released, grants))
        return waits

    def test_one_holder_and_first_come_first_granted(self):
        for machines in range(1, 6):
            for seed in range(5):
                waits = self.play(machines, seed)
                self.assertEqual(waits > 20, machines > 1)


if __name__ == "__main__":
    unittest.main()
