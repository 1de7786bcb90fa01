"""Point [13]: pages played through with their homes, by hand and by chance."""

import collections
import random
import unittest

from commonage.clocks import covered, make_record, merged, with_count, zero_clock
from commonage.homes import arrived, chosen_homes, first_homes, had, is_fresh, needs, new_held
from commonage.pages import FIRST_CELL, difference, merge, new_page, page_of, place_of, rows_of, store


class Machine:
    """The copies of one machine, and the interval in which it is."""

    def __init__(self, number, machines, pages):
        self.number = number
        self.clock = with_count(zero_clock(machines), number, 1)
        self.copies = [new_page() for _ in range(pages)]
        self.held = [new_held(machines) for _ in range(pages)]
        self.loads, self.stored = [], {}
        self.asks, self.waits = [], None

    def is_ready(self, page):
        return is_fresh(self.held[page], self.held[page]["need"], self.number)


class Play:
    """Machines whose clocks spread at once, while differences and pages are under way, each row in its order."""

    def __init__(self, test, machines, pages):
        self.test = test
        self.machines = [Machine(number, machines, pages) for number in range(machines)]
        self.pages = pages
        self.homes = first_homes(machines, pages)
        self.rows = collections.defaultdict(collections.deque)
        self.stores = collections.defaultdict(list)
        self.records, self.epoch = [], []
        self.counts = collections.Counter()

    def send(self, source, target, letter):
        self.rows[source, target].append(letter)

    def touch(self, number, word, value=None):
        """Loads the word, or stores the value; returns the cell, or None if the machine waits for the page."""
        machine, page = self.machines[number], page_of(word)
        if not machine.is_ready(page):
            machine.waits = page
            if self.homes[page] != number:
                self.send(number, self.homes[page], ("ask_page", page, machine.held[page]["need"]))
            return None
        self.check(machine, page)
        copy, place = machine.copies[page], place_of(word)
        if value is None:
            machine.loads.append(word)
        else:
            key = store(copy, place, value, number)
            self.stores[word].append((number, machine.clock[number], value, key))
            machine.stored.setdefault(page, {})[place] = (value, key)
        return copy[place]

    def check(self, machine, page):
        """A copy that is fresh for its need has every store that happens before, and only what was stored."""
        is_stale = False
        for word in range(4 * page, 4 * page + 4):
            cell = machine.copies[page][place_of(word)]
            self.test.assertIn(cell, [FIRST_CELL, *[row[2:] for row in self.stores[word]]])
            for number, interval, _, key in self.stores[word]:
                happens_before = number == machine.number or machine.clock[number] >= interval
                is_stale = is_stale or (happens_before and cell[1] < key)
        is_ready = machine.is_ready(page)
        self.counts["fresh"] += is_ready and any(machine.held[page]["need"])
        self.counts["stale"] += is_stale
        self.test.assertFalse(is_ready and is_stale)

    def check_all(self):
        for machine in self.machines:
            for page in range(self.pages):
                self.check(machine, page)

    def end_interval(self, number):
        """Ends the interval; returns the clock that a letter tells of it."""
        machine = self.machines[number]
        clock, interval = machine.clock, machine.clock[number]
        words = [4 * page + place for page, cells in machine.stored.items() for place in cells]
        record = make_record(number, interval, clock, machine.loads, words)
        self.records.append(record)
        self.epoch.append(record)
        for page, cells in sorted(machine.stored.items()):
            arrived(machine.held[page], number, interval)
            if self.homes[page] != number:
                self.send(number, self.homes[page], ("difference", page, interval, difference(cells)))
        machine.clock = with_count(clock, number, interval + 1)
        machine.loads, machine.stored = [], {}
        self.answer(machine)
        return clock

    def learn(self, number, clock):
        """The machine learns the clock, and with it what its pages need."""
        machine = self.machines[number]
        before = machine.clock
        machine.clock = merged(before, clock)
        for record in covered(self.records, machine.clock):
            if record[0] != number and before[record[0]] < record[1]:
                for word in record[4]:
                    needs(machine.held[page_of(word)], record[0], record[1])

    def tell(self, source, target):
        """What a lock does: all that the source has done comes before all that the target will do."""
        clock = self.end_interval(source)
        self.end_interval(target)
        self.learn(target, clock)

    def barrier(self):
        clock = zero_clock(len(self.machines))
        for machine in self.machines:
            clock = merged(clock, self.end_interval(machine.number))
        for machine in self.machines:
            self.learn(machine.number, clock)
        homes = chosen_homes(self.homes, self.epoch)
        self.counts["moved"] += homes != self.homes
        self.check_homes(homes)
        self.homes, self.epoch = homes, []

    def check_homes(self, homes):
        """The new home has the whole page, though differences of earlier epochs may be under way."""
        for page, home in enumerate(homes):
            storers = {record[0] for record in self.epoch if any(page_of(word) == page for word in record[4])}
            if storers == {home}:
                self.test.assertTrue(self.machines[home].is_ready(page))
                for word in range(4 * page, 4 * page + 4):
                    cells = [FIRST_CELL, *[row[2:] for row in self.stores[word]]]
                    newest = max(cells, key=lambda cell: cell[1])
                    self.test.assertEqual(self.machines[home].copies[page][place_of(word)], newest)

    def answer(self, machine):
        """Answers the asks that can be answered."""
        waiting = []
        for source, page, need in machine.asks:
            if is_fresh(machine.held[page], need, machine.number):
                letter = ("page", page, rows_of(machine.copies[page]), machine.held[page]["has"])
                self.send(machine.number, source, letter)
            else:
                waiting.append((source, page, need))
                self.counts["late"] += 1
        machine.asks = waiting

    def deliver(self, source, target):
        """The next letter of the row arrives."""
        machine = self.machines[target]
        word, page, *rest = self.rows[source, target].popleft()
        if word == "difference":
            merge(machine.copies[page], rest[1])
            arrived(machine.held[page], source, rest[0])
        elif word == "page":
            merge(machine.copies[page], rest[0])
            had(machine.held[page], rest[1])
        else:
            machine.asks.append((source, page, rest[0]))
        self.answer(machine)
        if machine.waits is not None and machine.is_ready(machine.waits):
            machine.waits = None

    def under_way(self):
        return sorted(row for row, letters in self.rows.items() if letters)

    def deliver_all(self):
        while self.under_way():
            self.deliver(*self.under_way()[0])
        self.test.assertEqual([machine.waits for machine in self.machines], [None] * len(self.machines))
        self.test.assertEqual([machine.asks for machine in self.machines], [[]] * len(self.machines))


class ByHand(unittest.TestCase):
    def test_a_difference_that_is_late(self):
        play = Play(self, 3, 1)
        self.assertEqual(play.touch(1, 2, 50), (50, (1, 1)))
        play.tell(1, 2)
        self.assertIsNone(play.touch(2, 2))
        self.assertEqual(play.machines[2].waits, 0)
        # The ask overtakes the difference, which is in another row, and has to wait for it.
        play.deliver(2, 0)
        self.assertEqual(play.under_way(), [(1, 0)])
        self.assertEqual(len(play.machines[0].asks), 1)
        play.deliver(1, 0)
        self.assertEqual(play.under_way(), [(0, 2)])
        play.deliver(0, 2)
        self.assertEqual(play.touch(2, 2), (50, (1, 1)))
        self.assertEqual(play.machines[2].held[0], {"need": (0, 1, 0), "has": (0, 1, 0)})

    def test_the_home_waits_for_a_difference_too(self):
        play = Play(self, 2, 1)
        play.touch(1, 3, 7)
        play.tell(1, 0)
        self.assertIsNone(play.touch(0, 3))
        self.assertEqual(play.under_way(), [(1, 0)])
        play.deliver(1, 0)
        self.assertEqual(play.touch(0, 3), (7, (1, 1)))

    def test_what_does_not_happen_before_is_not_needed(self):
        play = Play(self, 2, 1)
        play.touch(1, 3, 7)
        self.assertEqual(play.touch(0, 3), FIRST_CELL)
        play.tell(0, 1)
        self.assertEqual(play.touch(0, 3), FIRST_CELL)
        self.assertEqual(play.touch(1, 3), (7, (1, 1)))

    def test_several_intervals_of_one_machine(self):
        play = Play(self, 3, 1)
        for value in (5, 6, 8):
            play.touch(1, 0, value)
            clock = play.end_interval(1)
        play.learn(0, clock)
        for _ in range(2):
            play.deliver(1, 0)
            self.assertIsNone(play.touch(0, 0))
        play.deliver(1, 0)
        self.assertEqual(play.touch(0, 0), (8, (3, 1)))

    def test_own_stores_stay_in_a_copy_that_takes_a_page(self):
        play = Play(self, 2, 1)
        play.touch(1, 0, 5)
        play.touch(0, 1, 6)
        play.tell(0, 1)
        play.touch(1, 0)
        play.deliver_all()
        self.assertEqual((play.touch(1, 0), play.touch(1, 1)), ((5, (1, 1)), (6, (1, 0))))

    def test_the_new_home_has_the_page_before_the_old_one(self):
        play = Play(self, 2, 1)
        play.touch(0, 1, 6)
        play.barrier()
        play.touch(1, 0)
        play.deliver_all()
        play.touch(1, 0, 5)
        play.barrier()
        self.assertEqual(play.homes, (1,))
        self.assertEqual(play.machines[1].copies[0], [(5, (1, 1)), (6, (1, 0)), FIRST_CELL, FIRST_CELL])
        self.assertEqual(play.under_way(), [(1, 0)])
        self.assertIsNone(play.touch(0, 0))
        play.deliver_all()
        self.assertEqual(play.touch(0, 0), (5, (1, 1)))


class ByChance(unittest.TestCase):
    def act(self, play, chance):
        """One act by chance; whoever waits for a page makes none."""
        ready = [machine.number for machine in play.machines if machine.waits is None]
        under_way = play.under_way()
        if under_way and (not ready or chance.random() < 0.25):
            play.deliver(*chance.choice(under_way))
        elif len(ready) == len(play.machines) and chance.random() < 0.2:
            play.barrier()
        elif len(ready) > 1 and chance.random() < 0.2:
            play.tell(*chance.sample(ready, 2))
        else:
            play.counts["acts"] += 1
            value = play.counts["acts"] if chance.random() < 0.6 else None
            play.touch(chance.choice(ready), chance.randrange(4 * play.pages), value)

    def test_every_copy_after_every_act(self):
        counts = collections.Counter()
        for seed in range(60):
            chance = random.Random(seed)
            play = Play(self, 1 + seed % 5, 1 + seed % 3)
            for _ in range(200):
                self.act(play, chance)
                play.check_all()
            play.deliver_all()
            play.check_all()
            counts += play.counts
        # Otherwise the acts would not reach what is to be shown.
        for word in ("fresh", "stale", "late", "moved"):
            self.assertGreater(counts[word], 50, word)

    def test_at_the_end_everybody_sees_the_greatest_keys(self):
        for seed in range(20):
            chance = random.Random(seed)
            play = Play(self, 2 + seed % 3, 2)
            for _ in range(100):
                self.act(play, chance)
            play.deliver_all()
            play.barrier()
            for machine in play.machines:
                for word in range(8):
                    play.touch(machine.number, word)
                    play.deliver_all()
                    newest = max([FIRST_CELL, *[row[2:] for row in play.stores[word]]], key=lambda cell: cell[1])
                    self.assertEqual(play.touch(machine.number, word), newest)


if __name__ == "__main__":
    unittest.main()
