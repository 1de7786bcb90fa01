"""Points [31] to [33] and [38]: the steps of a node, alone and among others."""

import copy
import unittest

from commonage.logs import Disk
from commonage.nodes import Node
from plays import Nodes, load_row, store_row, told_by

FIRST = (0, (0, 0))
STATES = {"run", "lock", "barrier", "page", "ended", "fault"}


def alone(program, pages=1):
    """A node without others, which has made all its steps."""
    nodes = Nodes([program], pages)
    nodes.run(0)
    return nodes.nodes[0]


def values_of(node):
    """The values that a node has stored, in order."""
    return [event[2] for event in node.events() if event[0] == "store"]


class NewNode(unittest.TestCase):
    def test_what_it_tells(self):
        for machines in range(1, 6):
            for machine in range(machines):
                node = Node(machine, machines, [("end",)], 3, Disk())
                clock = tuple(1 if other == machine else 0 for other in range(machines))
                self.assertEqual(told_by(node, machines), {
                    "state": "run", "steps": 0, "clock": clock, "events": [], "races": [], "copies": [[FIRST] * 4] * 3,
                    "homes": [page % machines for page in range(3)], "waits": None, "known": [], "holders": [None] * 4,
                    "answers": [0] * machines,
                })
                self.assertEqual([node.again(target) for target in range(machines)], [[]] * machines)

    def test_kinds(self):
        node = Node(0, 2, [], 2, Disk())
        kinds = [str, int, tuple, list, list, list, list, type(None), list, list, list]
        self.assertEqual([type(value) for value in told_by(node, 2, 2).values()], kinds)

    def test_beyond_the_limits(self):
        node = Node(4, 5, [("acquire", 7), *store_row(55, 1)], 14, Disk())
        self.assertEqual(len(node.homes()), 14)
        self.assertEqual(node.step(), [(2, (1, ("ask_lock", 7, (0, 0, 0, 0, 1))))])
        self.assertEqual(node.copy_of(13), [FIRST] * 4)
        self.assertEqual([node.copy_of(page) for page in (14, -1)], [[FIRST] * 4] * 2)
        self.assertEqual([node.holder(lock) for lock in (4, 9, 10 ** 400)], [None] * 3)

    def test_the_program_that_was_passed_may_change(self):
        program = store_row(1, 5)
        node = Node(0, 1, program, 1, Disk())
        kept = copy.deepcopy(program)
        for _ in range(9):
            node.step()
        self.assertEqual(program, kept)
        node = Node(0, 1, program, 1, Disk())
        program.clear()
        for _ in range(9):
            node.step()
        self.assertEqual(node.events(), [("store", 1, 5, (1, 0)), ("end",)])


class Alone(unittest.TestCase):
    def test_registers(self):
        program = [
            ("set", 1, 5), ("set", 2, 7), ("sub", 0, 1, 2), ("mul", 3, 0, 2), ("add", 4, 3, 1), ("copy", 5, 4),
            *[("store", number, number) for number in range(8)],
        ]
        self.assertEqual(values_of(alone(program, 4)), [-2, 5, 7, -14, -9, -9, 0, 0])

    def test_places(self):
        program = [
            ("set", 0, 3), ("set", 1, 1), ("store", 2, 0), ("sub", 0, 0, 1), ("branch", 0, 2), ("jump", 7),
            ("store", 2, 1), ("store", 2, 0),
        ]
        node = alone(program)
        self.assertEqual(values_of(node), [3, 2, 1, 0])
        self.assertEqual(node.steps(), 2 + 3 * 3 + 1 + 1 + 1)

    def test_each_instruction_is_a_step(self):
        program = [
            ("set", 0, 1), ("copy", 1, 0), ("add", 1, 1, 0), ("sub", 1, 1, 0), ("mul", 1, 1, 0), ("load", 2, 0),
            ("store", 0, 1), ("jump", 8), ("branch", 0, 9), ("acquire", 2), ("release", 2), ("barrier",), ("end",),
        ]
        nodes = Nodes([program])
        for steps in range(1, 14):
            self.assertEqual(nodes.states(), ["run"])
            self.assertEqual(nodes.step(0), [])
            self.assertEqual(nodes.nodes[0].steps(), steps)
        self.assertEqual(nodes.states(), ["ended"])

    def test_loads_and_stores(self):
        program = [
            ("load", 1, 0), ("set", 2, 9), ("store", 0, 2), ("load", 3, 0), ("store", 2, 3), ("set", 2, -3),
            ("store", 2, 2), ("load", 4, 2), ("store", 0, 4),
        ]
        node = alone(program, 2)
        self.assertEqual(node.events(), [
            ("load", 0, 0, (0, 0)), ("store", 0, 9, (1, 0)), ("load", 0, 9, (1, 0)), ("store", 1, 9, (1, 0)),
            ("store", 5, -3, (1, 0)), ("load", 5, -3, (1, 0)), ("store", 0, -3, (2, 0)), ("end",),
        ])
        self.assertEqual(node.copy_of(0), [(-3, (2, 0)), (9, (1, 0)), FIRST, FIRST])
        self.assertEqual(node.copy_of(1), [FIRST, (-3, (1, 0)), FIRST, FIRST])

    def test_an_address_is_taken_modulo_the_number_of_words(self):
        for pages in (1, 2, 12):
            words = 4 * pages
            for address in (0, words - 1, words, words + 1, -1, -words, 10 ** 400, -10 ** 400):
                node = alone([*store_row(address, 5), *load_row(address)], pages)
                word = address % words
                self.assertEqual(node.events()[:2], [("store", word, 5, (1, 0)), ("load", word, 5, (1, 0))])

    def test_locks(self):
        node = alone([("acquire", 0), ("acquire", 3), ("release", 0), ("acquire", 0), ("release", 3), ("release", 0)])
        self.assertEqual(node.events(), [
            ("acquire", 0, 1), ("acquire", 3, 1), ("release", 0, 1), ("acquire", 0, 2), ("release", 3, 1),
            ("release", 0, 2), ("end",),
        ])
        self.assertEqual((node.clock(), node.steps(), node.state()), ((8,), 7, "ended"))

    def test_holder(self):
        nodes = Nodes([[("acquire", 2), ("release", 2)]])
        nodes.step(0)
        self.assertEqual([nodes.nodes[0].holder(lock) for lock in range(4)], [None, None, 0, None])
        nodes.step(0)
        self.assertEqual([nodes.nodes[0].holder(lock) for lock in range(4)], [None] * 4)

    def test_barriers(self):
        nodes = Nodes([[("barrier",), ("barrier",)]])
        for number in (1, 2):
            self.assertEqual(nodes.step(0), [])
            self.assertEqual(nodes.nodes[0].events()[-1], ("barrier", number))
            self.assertEqual((nodes.nodes[0].clock(), nodes.states()), ((number + 1,), ["run"]))
        nodes.step(0)
        self.assertEqual(nodes.nodes[0].events(), [("barrier", 1), ("barrier", 2), ("end",)])
        self.assertEqual((nodes.nodes[0].clock(), nodes.nodes[0].races()), ((4,), []))

    def test_what_ends_a_program(self):
        for program in ([], [("end",)], [("end",), ("set", 0, 1)], [("jump", 5)], [("jump", 10 ** 400)]):
            node = alone(program)
            self.assertEqual((node.state(), node.events(), node.clock()), ("ended", [("end",)], (2,)))
            self.assertEqual(node.steps(), 2 if program[:1] and program[0][0] == "jump" else 1)

    def test_faults(self):
        for program, events in [
            ([("release", 1)], []),
            ([("acquire", 1), ("acquire", 1)], [("acquire", 1, 1), ("release", 1, 1)]),
            ([("acquire", 1), ("release", 1), ("release", 1)], [("acquire", 1, 1), ("release", 1, 1)]),
            (
                [("acquire", 3), ("acquire", 1), ("release", 2)],
                [("acquire", 3, 1), ("acquire", 1, 1), ("release", 1, 1), ("release", 3, 1)],
            ),
        ]:
            node = alone(program + store_row(1, 1))
            self.assertEqual((node.state(), node.events()), ("fault", [*events, ("fault",)]))
            self.assertEqual((node.steps(), node.waits_for()), (len(program), None))

    def test_no_step_when_it_is_over(self):
        for program in ([("end",)], [("release", 0)]):
            nodes = Nodes([program])
            nodes.run(0)
            told = told_by(nodes.nodes[0], 1)
            for _ in range(3):
                self.assertEqual(nodes.nodes[0].step(), [])
            self.assertEqual(told_by(nodes.nodes[0], 1), told)
            self.assertIn(told["state"], STATES)

    def test_an_endless_program(self):
        nodes = Nodes([[("jump", 0)]])
        nodes.step(0, 50)
        self.assertEqual((nodes.nodes[0].steps(), nodes.states(), nodes.trace()), (50, ["run"], [[]]))

    def test_records_are_known_until_the_barrier(self):
        program = [*store_row(3, 5), *store_row(1, 5), *load_row(3), ("acquire", 0), ("release", 0), ("barrier",)]
        nodes = Nodes([program])
        nodes.step(0, 8)
        self.assertEqual(nodes.nodes[0].known(), [])
        nodes.step(0)
        self.assertEqual(nodes.nodes[0].known(), [(0, 1, (1,), (3,), (1, 3))])
        nodes.step(0)
        self.assertEqual(nodes.nodes[0].known(), [(0, 1, (1,), (3,), (1, 3))])
        nodes.step(0)
        self.assertEqual(nodes.nodes[0].known(), [])


class AcquireAndRelease(unittest.TestCase):
    def test_a_lock_of_another_manager(self):
        nodes = Nodes([[], [("acquire", 0), *store_row(0, 3), ("release", 0), ("set", 0, 1)]])
        node = nodes.nodes[1]
        self.assertEqual(nodes.step(1), [(0, ("ask_lock", 0, (0, 1)))])
        self.assertEqual((node.state(), node.waits_for(), node.clock()), ("lock", ("lock", 0), (0, 2)))
        self.assertEqual((nodes.step(1), node.steps(), node.events()), ([], 1, []))
        self.assertEqual(nodes.deliver(1, 0), [(1, ("grant", 0, 1, (0, 0), ()))])
        self.assertEqual((nodes.nodes[0].holder(0), node.holder(0)), (1, None))
        self.assertEqual(nodes.deliver(0, 1), [])
        self.assertEqual((node.state(), node.waits_for(), node.clock()), ("run", None, (0, 2)))
        self.assertEqual(node.events(), [("acquire", 0, 1)])
        nodes.step(1, 3)
        # Word 0 is in page 0, whose home is machine 0: the difference goes before the letter of the release.
        record = (1, 2, (0, 2), (), (0,))
        self.assertEqual(nodes.step(1), [
            (0, ("difference", 0, 2, ((0, 3, (1, 1)),))), (0, ("let_go", 0, (0, 2), (record,))),
        ])
        self.assertEqual((node.state(), node.clock(), node.steps()), ("run", (0, 3), 5))
        self.assertEqual(node.events()[-1], ("release", 0, 1))
        self.assertEqual(nodes.nodes[0].holder(0), 1)
        nodes.deliver_all()
        self.assertIsNone(nodes.nodes[0].holder(0))
        nodes.step(1)
        self.assertEqual(node.state(), "run")

    def test_the_own_lock_that_another_one_holds(self):
        nodes = Nodes([[("acquire", 0), ("acquire", 0)], [("acquire", 0), ("release", 0)]])
        nodes.step(1)
        nodes.deliver_all()
        self.assertEqual(nodes.step(0), [])
        node = nodes.nodes[0]
        self.assertEqual((node.state(), node.waits_for(), node.holder(0)), ("lock", ("lock", 0), 1))
        self.assertEqual(node.clock(), (2, 0))
        self.assertEqual(nodes.step(1), [(0, ("let_go", 0, (0, 2), ()))])
        self.assertEqual(nodes.deliver(1, 0), [])
        self.assertEqual((node.state(), node.holder(0), node.clock()), ("run", 0, (2, 2)))
        self.assertEqual(node.events(), [("acquire", 0, 2)])

    def test_the_own_lock_goes_on_to_another_one(self):
        nodes = Nodes([[("acquire", 0), *store_row(0, 5), ("release", 0)], [("acquire", 0)]])
        nodes.step(0)
        nodes.step(1)
        self.assertEqual(nodes.deliver(1, 0), [])
        nodes.step(0, 3)
        record = (0, 2, (2, 0), (), (0,))
        self.assertEqual(nodes.step(0), [(1, ("grant", 0, 2, (2, 0), (record,)))])
        self.assertEqual((nodes.nodes[0].state(), nodes.nodes[0].holder(0)), ("run", 1))
        nodes.deliver_all()
        self.assertEqual(nodes.nodes[1].events(), [("acquire", 0, 2)])
        self.assertEqual((nodes.nodes[1].clock(), nodes.nodes[1].known()), ((2, 2), [record]))

    def test_a_fault_sends_what_an_end_sends(self):
        touches = [*store_row(0, 3), *store_row(9, 4)]
        for prefix, last in [
            ([], [("release", 0)]), ([("acquire", 2)], [("acquire", 2)]), ([("acquire", 2), ("acquire", 1)], [("acquire", 1)]),
            ([("acquire", 3)], [("release", 1)]),
        ]:
            runs = []
            for ending in (last, [("end",)]):
                nodes = Nodes([[], [*prefix, *touches, *ending], []], 3)
                for _ in prefix:
                    nodes.step(1)
                    nodes.deliver_all()
                nodes.step(1, len(touches))
                runs.append((nodes.step(1), nodes.nodes[1]))
            (fault, faulty), (end, ended) = runs
            self.assertEqual(fault, end)
            self.assertGreater(len(fault), 2)
            self.assertEqual((faulty.state(), ended.state()), ("fault", "ended"))
            self.assertEqual(faulty.events(), [*ended.events()[:-1], ("fault",)])
            self.assertEqual((faulty.clock(), faulty.steps(), faulty.known()), (ended.clock(), ended.steps(), ended.known()))


class EndWithLocks(unittest.TestCase):
    def test_they_are_let_go_in_ascending_order(self):
        order = (3, 0, 2, 1)
        program = [*[("acquire", lock) for lock in order], *store_row(1, 6)]
        nodes = Nodes([[], program, []], 2)
        for _ in order:
            nodes.step(1)
            nodes.deliver_all()
        nodes.step(1, 3)
        clock = (0, 5, 0)
        record = (1, 5, clock, (), (1,))
        # Machine 1 manages the lock 1 itself; what machine 0 was told with the lock 0 is not told once more.
        self.assertEqual(nodes.step(1), [
            (0, ("difference", 0, 5, ((1, 6, (1, 1)),))),
            (0, ("let_go", 0, clock, (record,))),
            (2, ("let_go", 2, clock, (record,))),
            (0, ("let_go", 3, clock, ())),
            (0, ("come", clock, (), True)),
        ])
        node = nodes.nodes[1]
        self.assertEqual(node.events()[-6:], [
            ("store", 1, 6, (1, 1)), ("release", 0, 1), ("release", 1, 1), ("release", 2, 1), ("release", 3, 1), ("end",),
        ])
        self.assertEqual((node.clock(), node.state(), node.holder(1)), ((0, 6, 0), "ended", None))
        nodes.deliver_all()
        self.assertEqual([nodes.nodes[lock % 3].holder(lock) for lock in range(4)], [None] * 4)

    def test_a_lock_of_the_node_itself_goes_on_at_once(self):
        nodes = Nodes([[("acquire", 0), ("acquire", 3)], [("acquire", 3)], [("acquire", 0)]])
        nodes.step(0, 2)
        for machine in (1, 2):
            nodes.step(machine)
            nodes.deliver_all()
        self.assertEqual(nodes.step(0), [(2, ("grant", 0, 2, (3, 0, 0), ())), (1, ("grant", 3, 2, (3, 0, 0), ()))])
        self.assertEqual(nodes.nodes[0].events()[2:], [("release", 0, 1), ("release", 3, 1), ("end",)])
        nodes.deliver_all()
        self.assertEqual(nodes.states(), ["ended", "run", "run"])


class PagesThatAreNotReady(unittest.TestCase):
    def locked(self, word):
        """The word is stored by machine 1 under lock 1; machines 0 and 2 take the lock after it and touch it."""
        reader = [("acquire", 1), *load_row(word), *store_row(word, 7)]
        nodes = Nodes([reader, [("acquire", 1), *store_row(word, 3), ("release", 1)], reader], 3)
        nodes.run(1)
        return nodes

    def test_elsewhere(self):
        nodes = self.locked(0)
        node = nodes.nodes[2]
        nodes.step(2)
        nodes.deliver(2, 1)
        nodes.deliver(1, 2)
        nodes.step(2)
        self.assertEqual((node.state(), node.steps()), ("run", 2))
        self.assertEqual(nodes.step(2), [(0, ("ask_page", 0, (0, 2, 0)))])
        self.assertEqual((node.state(), node.waits_for(), node.steps()), ("page", ("page", 0), 3))
        self.assertEqual(node.events(), [("acquire", 1, 2)])
        self.assertEqual((nodes.step(2), node.steps(), node.clock()), ([], 3, (0, 2, 2)))
        # The difference is still under way, so the ask waits at the home.
        self.assertEqual(nodes.deliver(2, 0), [])
        self.assertEqual(nodes.nodes[0].copy_of(0), [FIRST] * 4)
        rows = ((0, 3, (1, 1)), (1, *FIRST), (2, *FIRST), (3, *FIRST))
        self.assertEqual(nodes.deliver(1, 0), [(2, ("page", 0, rows, (0, 2, 0)))])
        self.assertEqual(nodes.deliver(0, 2), [])
        self.assertEqual((node.state(), node.waits_for(), node.steps()), ("run", None, 3))
        self.assertEqual(node.events(), [("acquire", 1, 2)])
        self.assertEqual((nodes.step(2), node.steps()), ([], 4))
        self.assertEqual(node.events(), [("acquire", 1, 2), ("load", 0, 3, (1, 1))])
        nodes.step(2, 3)
        self.assertEqual(node.events()[-1], ("store", 0, 7, (2, 2)))

    def test_at_the_home_behind_the_difference(self):
        nodes = self.locked(0)
        nodes.step(0)
        nodes.deliver_all()
        self.assertEqual(nodes.nodes[0].clock(), (2, 2, 0))
        self.assertEqual(nodes.step(0, 2), [])
        self.assertEqual(nodes.trace()[0], [("acquire", 1, 2), ("load", 0, 3, (1, 1))])

    def test_at_the_home_before_the_difference(self):
        # The lock of machine 2 tells machine 0 of the store before the difference of machine 1 arrives.
        nodes = Nodes([
            [("acquire", 2), *store_row(0, 7), *load_row(0)],
            [("acquire", 2), *store_row(0, 3), ("release", 2)],
            [],
        ])
        nodes.step(1)
        nodes.deliver(1, 2)
        nodes.deliver(2, 1)
        nodes.run(1)
        nodes.deliver(1, 2)
        nodes.step(0)
        nodes.deliver(0, 2)
        nodes.deliver(2, 0)
        node = nodes.nodes[0]
        self.assertEqual((node.state(), node.clock()), ("run", (2, 2, 0)))
        nodes.step(0, 2)
        self.assertEqual(node.state(), "run")
        self.assertEqual(nodes.step(0), [])
        self.assertEqual((node.state(), node.waits_for(), node.steps()), ("page", ("page", 0), 4))
        self.assertEqual(node.events(), [("acquire", 2, 2)])
        self.assertEqual(nodes.deliver(1, 0), [])
        self.assertEqual((node.state(), node.steps(), node.events()), ("run", 4, [("acquire", 2, 2)]))
        self.assertEqual((nodes.step(0), node.steps()), ([], 5))
        self.assertEqual(node.events()[1:], [("store", 0, 7, (2, 0))])

    def test_other_pages_are_ready(self):
        nodes = self.locked(0)
        nodes.programs[2] = [("acquire", 1), *load_row(4), *store_row(9, 2), *load_row(0)]
        nodes.come_back(2)
        nodes.step(2)
        nodes.deliver(2, 1)
        nodes.deliver(1, 2)
        nodes.run(2)
        self.assertEqual(nodes.trace()[2], [("acquire", 1, 2), ("load", 4, 0, (0, 0)), ("store", 9, 2, (1, 2))])
        self.assertEqual(nodes.nodes[2].waits_for(), ("page", 0))


class EndOfAnInterval(unittest.TestCase):
    def test_differences_of_several_pages(self):
        # The homes of the pages 0 to 5 are 0, 1, 2, 0, 1, 2.
        words = (20, 1, 12, 5, 10, 2, 17)
        program = [row for word in words for row in store_row(word, word)] + [*store_row(2, 8), ("acquire", 2)]
        nodes = Nodes([[], program, []], 6)
        nodes.step(1, 24)
        self.assertEqual(nodes.step(1), [
            (0, ("difference", 0, 1, ((1, 1, (1, 1)), (2, 8, (2, 1))))),
            (2, ("difference", 2, 1, ((2, 10, (1, 1)),))),
            (0, ("difference", 3, 1, ((0, 12, (1, 1)),))),
            (2, ("difference", 5, 1, ((0, 20, (1, 1)),))),
            (2, ("ask_lock", 2, (0, 1, 0))),
        ])
        record = (1, 1, (0, 1, 0), (), (1, 2, 5, 10, 12, 17, 20))
        self.assertEqual((nodes.nodes[1].known(), nodes.nodes[1].clock()), ([record], (0, 2, 0)))

    def test_kinds_of_the_letters(self):
        nodes = Nodes([[], [*store_row(0, 3), ("barrier",)]])
        (_, difference), (_, come) = nodes.run(1)
        self.assertEqual([type(part) for part in (difference, *difference)], [tuple, str, int, int, tuple])
        self.assertEqual([type(part) for part in (come, *come)], [tuple, str, tuple, tuple, bool])

    def test_only_loads(self):
        nodes = Nodes([[], [*load_row(5), *load_row(2), *load_row(5), ("acquire", 0)]], 2)
        self.assertEqual(nodes.run(1), [(0, ("ask_lock", 0, (0, 1)))])
        self.assertEqual(nodes.nodes[1].known(), [(1, 1, (0, 1), (2, 5), ())])

    def test_an_interval_that_touched_nothing(self):
        nodes = Nodes([[], [("set", 0, 1), ("barrier",)]])
        self.assertEqual(nodes.run(1), [(0, ("come", (0, 1), (), False))])
        self.assertEqual((nodes.nodes[1].known(), nodes.nodes[1].clock()), ([], (0, 2)))

    def test_each_interval_has_its_own_touches(self):
        nodes = Nodes([[*store_row(0, 1), *load_row(1), ("acquire", 0), *store_row(2, 1), ("release", 0), ("acquire", 2)], []])
        nodes.run(0)
        self.assertEqual(nodes.nodes[0].known(), [(0, 1, (1, 0), (1,), (0,)), (0, 2, (2, 0), (), (2,))])
        self.assertEqual(nodes.nodes[0].clock(), (5, 0))

    def test_the_number_in_the_clock(self):
        program = [("acquire", 1), ("release", 1), ("barrier",), ("end",)]
        nodes = Nodes([[("barrier",)], program])
        clocks = []
        for _ in program:
            before = nodes.nodes[1].clock()
            sent = nodes.step(1)
            clocks.append((before, [part for _, letter in sent for part in letter if type(part) is tuple and part]))
            self.assertEqual(nodes.nodes[1].clock()[1], before[1] + 1)
            nodes.run(0)
            nodes.deliver_all()
        self.assertEqual(clocks, [
            ((0, 1), []), ((0, 2), []), ((0, 3), [(0, 3)]), ((1, 4), [(1, 4)]),
        ])

    def test_a_letter_from_a_node_to_itself_is_no_parcel(self):
        nodes = Nodes([[("acquire", 0), ("release", 0), ("barrier",)], []])
        self.assertEqual(nodes.run(0), [])
        self.assertEqual([nodes.nodes[0].again(target) for target in (0, 1)], [[], []])
        self.assertEqual(nodes.states()[0], "barrier")


if __name__ == "__main__":
    unittest.main()
