"""Points [34] to [38]: what goes with the letters of nodes, and what they do where they are taken."""

import random
import unittest

from commonage.logs import Disk
from commonage.nodes import Node
from plays import Nodes, load_row, program_by_chance, store_row

FIRST = (0, (0, 0))
NOTHING = ((0, *FIRST), (1, *FIRST), (2, *FIRST), (3, *FIRST))


class Single:
    """A node whose letters from others are made by hand."""

    def __init__(self, machine, machines, program, pages=1):
        self.node = Node(machine, machines, program, pages, Disk())
        self.numbers = [0] * machines

    def take(self, source, *letter):
        """The letter is taken; returns the tuples (target, letter) that were sent by it."""
        self.numbers[source] += 1
        sent = self.node.take(source, (self.numbers[source], letter))
        return [(target, answer) for target, (_, answer) in sent]

    def run(self):
        sent = []
        while self.node.state() == "run":
            sent.extend((target, letter) for target, (_, letter) in self.node.step())
        return sent


def record(machine, number, clock, stores=(), loads=()):
    return (machine, number, clock, tuple(loads), tuple(stores))


class RecordsWithGrants(unittest.TestCase):
    def setUp(self):
        self.first = record(1, 1, (0, 1, 0), [4])
        self.second = record(1, 2, (0, 2, 0), [5])
        self.third = record(1, 3, (0, 3, 2), [6])
        self.other = record(2, 1, (0, 0, 1), [], [7])
        self.another = record(2, 2, (0, 0, 2), [1])

    def released(self):
        """Machine 0 manages the lock 0; machine 1 has let it go, and has told of five records."""
        single = Single(0, 3, [])
        self.assertEqual(single.take(1, "ask_lock", 0, (0, 0, 0)), [(1, ("grant", 0, 1, (0, 0, 0), ()))])
        told = (self.third, self.first, self.other, self.another, self.second)
        self.assertEqual(single.take(1, "let_go", 0, (0, 3, 2), told), [])
        return single

    def test_ascending_by_number_and_machine(self):
        expected = (self.first, self.other, self.second, self.another, self.third)
        self.assertEqual(self.released().take(2, "ask_lock", 0, (0, 0, 0)), [(2, ("grant", 0, 2, (0, 3, 2), expected))])

    def test_only_what_the_clock_of_the_asker_does_not_cover(self):
        for clock, expected in [
            ((0, 0, 1), (self.first, self.second, self.another, self.third)),
            ((0, 1, 5), (self.second, self.third)), ((0, 2, 1), (self.another, self.third)), ((9, 3, 9), ()),
        ]:
            self.assertEqual(
                self.released().take(2, "ask_lock", 0, clock), [(2, ("grant", 0, 2, (0, 3, 2), expected))],
            )

    def test_only_what_the_clock_of_the_letter_covers(self):
        single = self.released()
        single.take(1, "ask_lock", 3, (0, 3, 0))
        further = (record(1, 4, (0, 4, 2), [6]), record(2, 3, (0, 0, 3), [6]))
        self.assertEqual(single.take(1, "let_go", 3, (0, 4, 3), further), [])
        expected = (self.first, self.other, self.second, self.another, self.third)
        self.assertEqual(single.take(2, "ask_lock", 0, (0, 0, 0)), [(2, ("grant", 0, 2, (0, 3, 2), expected))])

    def test_the_clock_when_a_waiting_asker_asked(self):
        single = Single(0, 3, [])
        single.take(1, "ask_lock", 0, (0, 1, 0))
        self.assertEqual(single.take(2, "ask_lock", 0, (0, 1, 1)), [])
        sent = single.take(1, "let_go", 0, (0, 3, 2), (self.first, self.second))
        self.assertEqual(sent, [(2, ("grant", 0, 2, (0, 3, 2), (self.second,)))])
        self.assertEqual(single.node.holder(0), 2)

    def test_a_first_grant_has_no_records(self):
        single = self.released()
        self.assertEqual(single.take(2, "ask_lock", 3, (0, 0, 0)), [(2, ("grant", 3, 1, (0, 0, 0), ()))])

    def test_what_a_letter_brings_is_known(self):
        node = self.released().node
        self.assertEqual(node.known(), [self.first, self.second, self.third, self.other, self.another])
        # A manager learns of a release, but nothing of it happens before what it does itself.
        self.assertEqual(node.clock(), (1, 0, 0))

    def test_records_that_are_told_twice(self):
        single = self.released()
        single.take(1, "ask_lock", 3, (0, 3, 0))
        single.take(1, "let_go", 3, (0, 4, 2), [self.first, self.another])
        self.assertEqual(single.node.known(), [self.first, self.second, self.third, self.other, self.another])


class RecordsWithLetGoAndCome(unittest.TestCase):
    def test_nothing_is_sent_twice_to_the_same_machine(self):
        program = [
            ("acquire", 0), *store_row(0, 1), ("release", 0), ("acquire", 3), *load_row(5), ("release", 3),
            ("acquire", 2), *load_row(2), ("release", 2), ("acquire", 0), ("release", 0), ("barrier",),
        ]
        nodes = Nodes([[], program, []], 2)
        told = []
        while nodes.states()[1] != "barrier":
            told.extend((to, letter[0], letter[-2:]) for to, letter in nodes.step(1) if letter[0] in ("let_go", "come"))
            nodes.deliver_all()
        one, two, three = record(1, 2, (0, 2, 0), [0]), record(1, 4, (0, 4, 0), [], [5]), record(1, 6, (0, 6, 0), [], [2])
        self.assertEqual(told, [
            (0, "let_go", ((0, 2, 0), (one,))), (0, "let_go", ((0, 4, 0), (two,))),
            (2, "let_go", ((0, 6, 0), (one, two, three))), (0, "let_go", ((0, 8, 0), (three,))), (0, "come", ((), False)),
        ])

    def test_what_others_have_done_is_told_too(self):
        single = Single(2, 3, [("acquire", 1), *store_row(1, 4), ("release", 1), ("barrier",)])
        single.run()
        one, two = record(0, 1, (1, 0, 0), [3]), record(1, 1, (0, 1, 0), [2])
        late = record(0, 2, (2, 0, 0), [3])
        self.assertEqual(single.take(1, "grant", 1, 5, (1, 1, 0), (one, two, late)), [])
        # The word 1 has to wait for the difference of the word 3, and its ask stands before the rest.
        self.assertEqual(single.run(), [(0, ("ask_page", 0, (1, 1, 0)))])
        single.take(0, "page", 0, NOTHING, (1, 1, 0))
        own = record(2, 2, (1, 1, 2), [1])
        self.assertEqual(single.run(), [
            (0, ("difference", 0, 2, ((1, 4, (1, 2)),))),
            (1, ("let_go", 1, (1, 1, 2), (one, two, own))),
            (0, ("come", (1, 1, 3), (one, two, own), False)),
        ])
        # The record that no clock covers stays, but is told to nobody.
        self.assertEqual(single.node.known(), [one, late, two, own])

    def test_after_a_barrier_only_what_came_since(self):
        program = [*store_row(0, 1), ("barrier",), *store_row(1, 2), ("barrier",)]
        nodes = Nodes([[("barrier",)], program])
        nodes.run(0)
        self.assertEqual(nodes.run(1)[-1], (0, ("come", (0, 1), (record(1, 1, (0, 1), [0]),), False)))
        nodes.deliver_all()
        self.assertEqual(nodes.nodes[1].clock(), (1, 2))
        nodes.step(1, 3)
        self.assertEqual(nodes.step(1), [(0, ("come", (1, 2), (record(1, 2, (1, 2), [1]),), False))])

    def test_a_machine_that_was_told_nothing_gets_only_what_came_since_the_barrier(self):
        program = [*store_row(0, 1), ("barrier",), ("acquire", 2), *load_row(1), ("release", 2)]
        nodes = Nodes([[("barrier",)], program, [("barrier",)]])
        nodes.run(0)
        nodes.run(2)
        nodes.run(1)
        nodes.deliver_all()
        nodes.run(1)
        nodes.deliver_all()
        sent = nodes.step(1, 3)
        self.assertEqual(sent, [(2, ("let_go", 2, (1, 3, 1), (record(1, 3, (1, 3, 1), [], [1]),)))])


class TakingAGrant(unittest.TestCase):
    def granted(self, machine, program, *rest, pages=3):
        single = Single(machine, 3, [("acquire", 1), *program], pages)
        single.run()
        self.assertEqual(single.take(1, "grant", 1, *rest), [])
        return single

    def test_the_clock(self):
        for clock, expected in [((0, 0, 0), (2, 0, 0)), ((0, 3, 4), (2, 3, 4)), ((1, 3, 0), (2, 3, 0))]:
            single = self.granted(0, [], 7, clock, ())
            self.assertEqual(single.node.clock(), expected)
            self.assertEqual((single.node.state(), single.node.waits_for()), ("run", None))
            self.assertEqual(single.node.events(), [("acquire", 1, 7)])

    def test_two_grants(self):
        single = self.granted(0, [("acquire", 2)], 1, (0, 3, 0), ())
        single.run()
        self.assertEqual(single.take(2, "grant", 2, 9, (1, 2, 6), ()), [])
        self.assertEqual(single.node.clock(), (3, 3, 6))
        self.assertEqual(single.node.events(), [("acquire", 1, 1), ("acquire", 2, 9)])

    def test_pages_need_what_is_covered_now(self):
        records = (
            record(1, 1, (0, 1, 0), [3, 8]), record(2, 2, (0, 0, 2), [9]), record(1, 4, (0, 4, 0), [0], [4]),
            record(2, 5, (0, 0, 5), [5]),
        )
        needs = []
        for word in (0, 4, 8):
            single = self.granted(0, load_row(word), 1, (0, 4, 3), records)
            self.assertEqual(single.node.known(), [records[0], records[2], records[1], records[3]])
            sent = single.run()
            needs.append((single.node.waits_for(), sent))
        # Page 0 is at home here; page 1 was not stored by what is covered.
        self.assertEqual(needs[0], (("page", 0), []))
        self.assertEqual((needs[1][0], needs[1][1][0][1][0]), (None, "let_go"))
        self.assertEqual(needs[2], (("page", 2), [(2, ("ask_page", 2, (0, 1, 2)))]))

    def test_the_greatest_number_is_needed(self):
        records = (record(1, 3, (0, 3, 0), [4]), record(1, 1, (0, 1, 0), [5]), record(1, 2, (0, 2, 0), [6]))
        single = self.granted(2, load_row(4), 1, (0, 3, 0), records)
        self.assertEqual(single.run(), [(1, ("ask_page", 1, (0, 3, 0)))])

    def test_what_was_known_before_it_was_covered(self):
        single = Single(2, 3, [("acquire", 1), *load_row(4)], 2)
        stored = record(0, 1, (1, 0, 0), [4])
        single.take(0, "ask_lock", 2, (0, 0, 0))
        single.take(0, "let_go", 2, (1, 0, 0), (stored,))
        self.assertEqual(single.node.clock(), (0, 0, 1))
        single.run()
        single.take(1, "grant", 1, 3, (1, 0, 0), ())
        self.assertEqual(single.run(), [(1, ("ask_page", 1, (1, 0, 0)))])

    def test_what_was_covered_before_is_not_needed_anew(self):
        single = Single(2, 3, [("acquire", 1), ("acquire", 0), *load_row(4)], 2)
        single.run()
        single.take(1, "grant", 1, 1, (0, 5, 0), (record(1, 5, (0, 5, 0), [4]),))
        single.run()
        single.take(0, "grant", 0, 1, (2, 5, 0), (record(0, 2, (2, 0, 0), [0]), record(1, 4, (0, 4, 0), [4])))
        self.assertEqual(single.run(), [(1, ("ask_page", 1, (0, 5, 0)))])

    def test_need_is_never_raised_for_own_intervals(self):
        single = Single(0, 3, [*store_row(4, 6), ("acquire", 1), *load_row(4)], 2)
        single.run()
        own = record(0, 1, (1, 0, 0), [4])
        single.take(1, "grant", 1, 1, (1, 3, 0), (own,))
        single.node.step()
        single.node.step()
        self.assertEqual(single.node.events()[-1], ("load", 4, 6, (1, 0)))
        self.assertEqual(single.node.known(), [own])


class Barriers(unittest.TestCase):
    def test_races_homes_and_letters(self):
        # The pages 0, 1, 2 have the homes 0, 1, 2. Page 0 is stored by 2 alone, page 1 by 0 and 1, page 2 by nobody.
        nodes = Nodes([
            [*store_row(5, 1), *load_row(1), ("barrier",)],
            [*load_row(5), *store_row(6, 2), ("barrier",)],
            [*store_row(1, 3), *load_row(6), ("set", 0, 1), ("barrier",)],
        ], 3)
        for machine in (2, 0, 1):
            nodes.run(machine)
        zero, one, two = record(0, 1, (1, 0, 0), [5], [1]), record(1, 1, (0, 1, 0), [6], [5]), record(2, 1, (0, 0, 1), [1], [6])
        master = nodes.nodes[0]
        nodes.deliver(2, 0)
        nodes.deliver(2, 0)
        self.assertEqual((master.races(), master.homes(), master.known()), ([], [0, 1, 2], [zero, two]))
        self.assertEqual(master.state(), "barrier")
        homes = (2, 1, 2)
        self.assertEqual(nodes.deliver(1, 0), [
            (1, ("go", 1, (1, 1, 1), (zero, two), homes)), (2, ("go", 1, (1, 1, 1), (zero, one), homes)),
        ])
        self.assertEqual(master.races(), [
            (1, (0, 1, (1, 0, 0), "load"), (2, 1, (0, 0, 1), "store")),
            (5, (0, 1, (1, 0, 0), "store"), (1, 1, (0, 1, 0), "load")),
            (6, (1, 1, (0, 1, 0), "store"), (2, 1, (0, 0, 1), "load")),
        ])
        self.assertEqual((master.homes(), master.known(), master.clock()), ([2, 1, 2], [], (2, 1, 1)))
        self.assertEqual((master.state(), master.waits_for(), master.events()[-1]), ("run", None, ("barrier", 1)))
        others = nodes.nodes[1:]
        for node, own in zip(others, (one, two)):
            self.assertEqual((node.homes(), node.known(), node.state()), ([0, 1, 2], [own], "barrier"))
        nodes.deliver_all()
        for node, clock in zip(others, ((1, 2, 1), (1, 1, 2))):
            self.assertEqual((node.homes(), node.known(), node.races()), ([2, 1, 2], [], []))
            self.assertEqual((node.clock(), node.state(), node.events()[-1]), (clock, "run", ("barrier", 1)))

    def test_go_by_number_and_machine(self):
        nodes = Nodes([
            [*store_row(0, 1), ("acquire", 0), *store_row(0, 1), ("barrier",)], [*load_row(0), ("barrier",)], [("barrier",)],
        ])
        nodes.run(0)
        nodes.run(1)
        nodes.run(2)
        nodes.deliver(1, 0)
        first, second, third = record(0, 1, (1, 0, 0), [0]), record(0, 2, (2, 0, 0), [0]), record(1, 1, (0, 1, 0), [], [0])
        self.assertEqual(nodes.deliver(2, 0), [
            (1, ("go", 1, (2, 1, 1), (first, second), (0,))), (2, ("go", 1, (2, 1, 1), (first, third, second), (0,))),
        ])

    def test_the_races_of_each_epoch(self):
        program = [*store_row(0, 1), ("barrier",), *store_row(1, 1), ("barrier",), ("barrier",), *store_row(0, 2)]
        nodes = Nodes([program, program], 2)
        nodes.settle()
        papers = [
            (0, (0, 1, (1, 0), "store"), (1, 1, (0, 1), "store")),
            (1, (0, 2, (2, 1), "store"), (1, 2, (1, 2), "store")),
            (0, (0, 4, (4, 3), "store"), (1, 4, (3, 4), "store")),
        ]
        self.assertEqual([node.races() for node in nodes.nodes], [papers, []])
        self.assertEqual(nodes.states(), ["ended", "ended"])
        nodes.nodes[0].races().clear()
        self.assertEqual(nodes.nodes[0].races(), papers)

    def test_go_is_sent_to_ended_machines_too(self):
        nodes = Nodes([[("barrier",), ("barrier",)], [*store_row(0, 1)], [("barrier",), *load_row(0), ("barrier",)]])
        nodes.run(1)
        nodes.run(2)
        nodes.run(0)
        nodes.deliver_all()
        ended = nodes.nodes[1]
        # The home has moved to the machine that alone has stored the page, though it has ended.
        self.assertEqual((ended.state(), ended.homes(), ended.known()), ("ended", [1], []))
        self.assertEqual((ended.events()[-1], ended.clock()), (("end",), (1, 2, 1)))
        nodes.run(0)
        nodes.step(2)
        self.assertEqual(nodes.step(2), [(1, ("ask_page", 0, (0, 1, 0)))])
        self.assertEqual(nodes.deliver(2, 1), [(2, ("page", 0, ((0, 1, (1, 1)), *NOTHING[1:]), (0, 1, 0)))])
        nodes.deliver(1, 2)
        nodes.run(2)
        loaded = record(2, 2, (1, 1, 2), [], [0])
        # It has come with the clock with which it ended, so all of the epoch is told to it.
        self.assertEqual(nodes.deliver(2, 0), [
            (1, ("go", 2, (2, 1, 2), (loaded,), (1,))), (2, ("go", 2, (2, 1, 2), (), (1,))),
        ])
        nodes.deliver_all()
        self.assertEqual((ended.events()[-1], ended.clock(), ended.known()), (("end",), (2, 2, 2), []))
        self.assertEqual(nodes.nodes[0].races(), [])

    def test_an_end_completes_a_barrier(self):
        for faulty in (False, True):
            nodes = Nodes([[("barrier",), ("barrier",)], [("release", 0)] if faulty else [("end",)]])
            nodes.run(0)
            self.assertEqual(nodes.run(1), [(0, ("come", (0, 1), (), True))])
            self.assertEqual(nodes.deliver(1, 0), [(1, ("go", 1, (1, 1), (), (0,)))])
            self.assertEqual(nodes.trace(), [[("barrier", 1)], [("fault",) if faulty else ("end",)]])
            self.assertEqual(nodes.step(0), [(1, ("go", 2, (2, 1), (), (0,)))])
            self.assertEqual(nodes.step(0), [(1, ("go", 3, (3, 1), (), (0,)))])
            nodes.deliver_all()
            self.assertEqual(nodes.trace(), [
                [("barrier", 1), ("barrier", 2), ("end",)], [("fault",) if faulty else ("end",)],
            ])

    def test_the_master_ends_before_the_others(self):
        nodes = Nodes([store_row(1, 4), [("barrier",), *load_row(1)]])
        nodes.run(0)
        nodes.run(1)
        nodes.settle()
        self.assertEqual(nodes.trace(), [
            [("store", 1, 4, (1, 0)), ("end",)], [("barrier", 1), ("load", 1, 4, (1, 0)), ("end",)],
        ])
        self.assertEqual(nodes.states(), ["ended", "ended"])

    def test_what_a_go_changes(self):
        single = Single(1, 3, [*store_row(0, 5), ("barrier",), *load_row(8)], 3)
        own = record(1, 1, (0, 1, 0), [0])
        self.assertEqual(single.run(), [
            (0, ("difference", 0, 1, ((0, 5, (1, 1)),))), (0, ("come", (0, 1, 0), (own,), False)),
        ])
        self.assertEqual((single.node.state(), single.node.waits_for()), ("barrier", ("barrier",)))
        self.assertEqual(single.node.known(), [own])
        brought = (record(0, 2, (2, 0, 0), [9]), record(2, 1, (0, 0, 1), [8]))
        self.assertEqual(single.take(0, "go", 4, (3, 1, 1), brought, (0, 1, 2)), [])
        self.assertEqual((single.node.clock(), single.node.known(), single.node.homes()), ((3, 2, 1), [], [0, 1, 2]))
        self.assertEqual(single.node.events()[-1], ("barrier", 4))
        self.assertEqual(single.run(), [(2, ("ask_page", 2, (2, 0, 1)))])

    def test_homes_are_a_list_of_their_own(self):
        single = Single(1, 2, [("barrier",)], 2)
        single.run()
        homes = [1, 1]
        single.take(0, "go", 1, (1, 1), [], homes)
        homes.append(5)
        self.assertEqual(single.node.homes(), [1, 1])
        single.node.homes().clear()
        self.assertEqual(single.node.homes(), [1, 1])

    def test_what_the_last_barrier_covers_does_not_become_known(self):
        single = Single(1, 3, [("barrier",)], 1)
        single.run()
        single.take(0, "go", 1, (2, 1, 4), (), (0,))
        single.take(2, "ask_lock", 1, (0, 0, 0))
        old, new = record(2, 4, (0, 0, 4), [1]), record(2, 5, (2, 1, 5), [1])
        self.assertEqual(single.take(2, "let_go", 1, (2, 1, 5), (old, new)), [])
        self.assertEqual(single.node.known(), [new])

    def test_only_what_the_clock_covers_is_given_back(self):
        single = Single(1, 3, [("barrier",)], 1)
        single.run()
        single.take(2, "ask_lock", 1, (0, 0, 0))
        old, new = record(2, 4, (0, 0, 4), [1]), record(2, 5, (2, 1, 5), [1])
        single.take(2, "let_go", 1, (2, 1, 5), (old, new))
        self.assertEqual(single.node.known(), [old, new])
        single.take(0, "go", 1, (2, 1, 4), (), (0,))
        self.assertEqual((single.node.known(), single.node.clock()), ([new], (2, 2, 4)))


class Pages(unittest.TestCase):
    def home(self, pages=1):
        """Machine 0 of 3, the home of page 0, which has ended."""
        single = Single(0, 3, [], pages)
        single.run()
        return single

    def test_difference(self):
        single = self.home()
        self.assertEqual(single.take(1, "difference", 0, 2, ((1, 5, (1, 1)), (3, 6, (1, 1)))), [])
        self.assertEqual(single.node.copy_of(0), [FIRST, (5, (1, 1)), FIRST, (6, (1, 1))])
        self.assertEqual(single.take(2, "difference", 0, 1, ((1, 7, (1, 2)), (3, 8, (1, 0)))), [])
        self.assertEqual(single.node.copy_of(0), [FIRST, (7, (1, 2)), FIRST, (6, (1, 1))])
        rows = ((0, *FIRST), (1, 7, (1, 2)), (2, *FIRST), (3, 6, (1, 1)))
        self.assertEqual(single.take(2, "ask_page", 0, (0, 2, 0)), [(2, ("page", 0, rows, (0, 2, 1)))])

    def test_an_ask_that_can_be_answered_at_once(self):
        for need in ((0, 0, 0), (9, 0, 0)):
            self.assertEqual(self.home().take(1, "ask_page", 0, need), [(1, ("page", 0, NOTHING, (0, 0, 0)))])

    def test_an_ask_that_waits(self):
        single = self.home()
        self.assertEqual(single.take(1, "ask_page", 0, (0, 0, 2)), [])
        self.assertEqual(single.take(2, "difference", 0, 1, ((0, 4, (1, 2)),)), [])
        self.assertEqual(single.take(2, "difference", 0, 3, ((0, 5, (2, 2)),)), [
            (1, ("page", 0, ((0, 5, (2, 2)), *NOTHING[1:]), (0, 0, 3))),
        ])
        # It is answered once.
        self.assertEqual(single.take(2, "difference", 0, 4, ((0, 6, (3, 2)),)), [])

    def test_several_asks_in_the_order_in_which_they_came(self):
        single = self.home(2)
        self.assertEqual(single.take(2, "ask_page", 0, (0, 1, 0)), [])
        self.assertEqual(single.take(1, "ask_page", 1, (0, 1, 1)), [])
        self.assertEqual(single.take(1, "ask_page", 0, (0, 0, 1)), [])
        self.assertEqual(single.take(2, "ask_page", 1, (0, 0, 1)), [])
        self.assertEqual(single.take(2, "ask_page", 0, (0, 1, 1)), [])
        self.assertEqual(single.take(2, "ask_page", 0, (0, 0, 0)), [(2, ("page", 0, NOTHING, (0, 0, 0)))])
        # The page brings all that the asks for page 0 have waited for; those for page 1 go on waiting.
        rows = ((0, 4, (1, 2)), (1, 5, (1, 1)), *NOTHING[2:])
        answer = ("page", 0, rows, (0, 1, 1))
        self.assertEqual(single.take(1, "page", 0, rows, (0, 1, 1)), [(2, answer), (1, answer), (2, answer)])
        self.assertEqual(single.take(2, "difference", 1, 1, ((0, 4, (1, 2)),)), [
            (2, ("page", 1, ((0, 4, (1, 2)), *NOTHING[1:]), (0, 0, 1))),
        ])
        self.assertEqual(single.take(1, "difference", 1, 1, ((0, 4, (1, 1)),)), [
            (1, ("page", 1, ((0, 4, (1, 2)), *NOTHING[1:]), (0, 1, 1))),
        ])

    def test_a_page_with_what_it_has(self):
        single = Single(1, 3, [("acquire", 1), *load_row(0), *store_row(1, 3), *load_row(2)], 1)
        single.node.step()
        self.assertEqual(single.node.state(), "run")
        rows = ((0, 8, (2, 0)), *NOTHING[1:])
        self.assertEqual(single.take(0, "page", 0, rows, (4, 0, 1)), [])
        self.assertEqual(single.node.copy_of(0), [(8, (2, 0)), FIRST, FIRST, FIRST])
        self.assertEqual(single.take(2, "ask_page", 0, (4, 7, 1)), [(2, ("page", 0, rows, (4, 0, 1)))])
        self.assertEqual(single.take(2, "ask_page", 0, (5, 7, 1)), [])
        self.assertEqual(single.take(0, "difference", 0, 5, ()), [(2, ("page", 0, rows, (5, 0, 1)))])
        # What a page has does not make less what is had.
        single.take(0, "page", 0, NOTHING, (1, 0, 9))
        self.assertEqual(single.take(2, "ask_page", 0, (0, 0, 0)), [(2, ("page", 0, rows, (5, 0, 9)))])

    def test_own_intervals_are_had_when_they_end(self):
        single = Single(0, 3, [*store_row(1, 5), ("acquire", 0), *store_row(1, 6), ("acquire", 3), *load_row(1)], 2)
        for _ in range(3):
            single.node.step()
        rows = (NOTHING[0], (1, 5, (1, 0)), *NOTHING[2:])
        # The stores of an interval that goes on are in the copy, but it is not had yet.
        self.assertEqual(single.take(1, "ask_page", 0, (0, 0, 0)), [(1, ("page", 0, rows, (0, 0, 0)))])
        single.node.step()
        self.assertEqual(single.take(1, "ask_page", 0, (0, 0, 0)), [(1, ("page", 0, rows, (1, 0, 0)))])
        for _ in range(4):
            single.node.step()
        rows = (NOTHING[0], (1, 6, (2, 0)), *NOTHING[2:])
        self.assertEqual(single.take(1, "ask_page", 0, (0, 0, 0)), [(1, ("page", 0, rows, (2, 0, 0)))])
        # Only the pages that were stored have the interval.
        self.assertEqual(single.take(1, "ask_page", 1, (0, 0, 0)), [(1, ("page", 1, NOTHING, (0, 0, 0)))])

    def test_stores_elsewhere_are_had_too(self):
        single = Single(1, 2, [*store_row(1, 5), ("acquire", 1)], 1)
        single.run()
        rows = (NOTHING[0], (1, 5, (1, 1)), *NOTHING[2:])
        self.assertEqual(single.take(0, "ask_page", 0, (0, 0)), [(0, ("page", 0, rows, (0, 1)))])

    def waiting(self):
        """Machine 2 waits for page 0, which needs the interval 1 of machine 0 and the interval 3 of machine 1."""
        single = Single(2, 3, [("acquire", 2), ("acquire", 1), *load_row(0)], 2)
        single.run()
        records = (record(0, 1, (1, 0, 0), [1]), record(1, 3, (0, 3, 0), [2]))
        single.take(1, "grant", 1, 1, (1, 3, 0), records)
        self.assertEqual(single.run(), [(0, ("ask_page", 0, (1, 3, 0)))])
        return single

    def test_any_order_makes_a_page_ready(self):
        letters = [(0, "difference", 0, 1, ()), (1, "difference", 0, 3, ()), (0, "page", 0, NOTHING, (1, 3, 0))]
        for order, ready in [([0], False), ([1], False), ([2], True), ([0, 1], True), ([1, 0], True)]:
            single = self.waiting()
            for at in order:
                self.assertEqual(single.node.waits_for(), ("page", 0))
                self.assertEqual(single.take(*letters[at]), [])
            self.assertEqual(single.node.state(), "run" if ready else "page")
            self.assertEqual(single.node.waits_for(), None if ready else ("page", 0))

    def test_other_pages_do_not_make_it_ready(self):
        single = self.waiting()
        single.take(0, "page", 1, NOTHING, (1, 3, 0))
        single.take(1, "difference", 1, 3, ())
        single.take(1, "ask_page", 1, (0, 0, 0))
        self.assertEqual(single.node.waits_for(), ("page", 0))
        single.take(0, "page", 0, NOTHING, (1, 2, 0))
        self.assertEqual(single.node.waits_for(), ("page", 0))

    def test_a_node_that_waits_answers_others(self):
        single = self.waiting()
        self.assertEqual(single.take(0, "ask_page", 1, (0, 0, 0)), [(0, ("page", 1, NOTHING, (0, 0, 0)))])
        self.assertEqual(single.take(0, "ask_lock", 2, (5, 0, 0)), [])
        self.assertEqual(single.node.holder(2), 2)


class Parcels(unittest.TestCase):
    def test_what_is_passed_over(self):
        node = Node(0, 2, [], 1, Disk())
        letter = ("ask_page", 0, (0, 0))
        self.assertEqual(node.take(1, (2, letter)), [])
        self.assertEqual(node.answer(1), 0)
        answer = ("page", 0, NOTHING, (0, 0))
        self.assertEqual(node.take(1, (1, letter)), [(1, (1, answer))])
        self.assertEqual(node.answer(1), 1)
        self.assertEqual(node.take(1, (1, letter)), [])
        self.assertEqual(node.take(1, (2, letter)), [(1, (2, answer))])
        self.assertEqual((node.answer(1), node.answer(0)), (2, 0))

    def test_again_and_confirm(self):
        node = Node(1, 3, [*store_row(0, 1), ("acquire", 2), ("end",)], 1, Disk())
        sent = [row for _ in range(4) for row in node.step()]
        self.assertEqual([(target, number) for target, (number, _) in sent], [(0, 1), (2, 1)])
        sent.extend(node.take(2, (1, ("grant", 2, 1, (0, 0, 0), ()))))
        sent.extend(node.step())
        self.assertEqual([(target, parcel[0]) for target, parcel in sent], [(0, 1), (2, 1), (2, 2), (0, 2)])
        for target in range(3):
            self.assertEqual(node.again(target), [parcel for to, parcel in sent if to == target])
        node.again(0).clear()
        self.assertIsNone(node.confirm(0, 1))
        self.assertEqual(node.again(0), [sent[3][1]])
        self.assertEqual([number for number, _ in node.again(2)], [1, 2])
        node.confirm(2, 0)
        self.assertEqual([number for number, _ in node.again(2)], [1, 2])
        node.confirm(2, 7)
        self.assertEqual(node.again(2), [])

    def test_what_was_returned_does_not_change(self):
        program = [*store_row(0, 1), ("barrier",), *load_row(0)]
        nodes = Nodes([program, [*store_row(0, 2), ("barrier",), *load_row(0)]])
        told = []
        for round_number in range(12):
            for node in nodes.nodes:
                parts = [node.events(), node.races(), node.copy_of(0), node.homes(), node.known(), node.again(0)]
                told.append((parts, [list(part) for part in parts]))
            nodes.step(round_number % 2)
            if round_number > 8:
                nodes.deliver_all()
        nodes.settle()
        self.assertEqual(nodes.states(), ["ended", "ended"])
        for parts, before in told:
            self.assertEqual(parts, before)


class ByChance(unittest.TestCase):
    def test_nothing_of_an_epoch_is_sent_twice_and_all_is_known(self):
        """What goes with let_go and come to a machine, over a whole run."""
        for seed in range(60):
            chance = random.Random(seed)
            machines = 1 + seed % 4
            nodes = Nodes([program_by_chance(chance, 8) for _ in range(machines)], 2)
            told = {}
            for _ in range(300):
                machine = chance.randrange(machines)
                rows = [row for row in nodes.under_way() if row[1] == machine]
                if rows and chance.random() < 0.6:
                    source = chance.choice(rows)[0]
                    sent = nodes.deliver(source, machine)
                else:
                    sent = nodes.step(machine)
                self.check(machine, sent, told)

    def check(self, machine, sent, told):
        for target, letter in sent:
            if letter[0] in ("let_go", "come", "grant", "go"):
                records = [part for part in letter if isinstance(part, tuple) and part and isinstance(part[0], tuple)]
                rows = records[0] if records else ()
                clock = letter[1] if letter[0] == "come" else letter[2] if letter[0] in ("let_go", "go") else letter[3]
                self.assertEqual(list(rows), sorted(rows, key=lambda row: (row[1], row[0])))
                self.assertTrue(all(clock[row[0]] >= row[1] for row in rows))
                if letter[0] in ("let_go", "come"):
                    before = told.setdefault((machine, target), [])
                    self.assertEqual([row for row in rows if row in before], [])
                    before.extend(rows)


if __name__ == "__main__":
    unittest.main()
