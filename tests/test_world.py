"""Points [47] to [50] and [2]: worlds, their acts, settling, and what they tell."""

import copy
import unittest

from commonage.errors import CommonageError, NotValid
from commonage.world import World
from plays import load_row, store_row

FIRST = (0, (0, 0))
LOOP = [("jump", 0)]
ACTS = ("step", "arrive", "lose", "double", "again", "save", "fall", "rise")


def told(world, machines):
    """All that a world tells of itself."""
    words = [world.word(machine, address) for machine in range(machines) for address in range(48)]
    return copy.deepcopy((world.trace(), world.races(), world.states(), world.waiting(), world.net(), words))


def asking():
    """Machine 1 of 2 has asked for the lock 0 of machine 0: there is one item."""
    world = World([LOOP, [("acquire", 0), ("jump", 1)]], 1)
    world.play([("step", 1)])
    return world


ASK = (1, 0, "parcel", (1, ("ask_lock", 0, (0, 1))))
GRANT = (0, 1, "parcel", (1, ("grant", 0, 1, (0, 0), ())))


class NotValidWorlds(unittest.TestCase):
    def test_programs(self):
        good = [("end",)]
        for programs in [
            [], [good] * 5, [good] * 40, (good,), (), None, 5, "ab", {0: good}, [None], [5], [good, None], [good, ("end",)],
            [[("end",), ("jump",)]], [[("set", 8, 1)]], [[("set", True, 1)]], [good, good, [["end"]]], [good, [()]],
            [[("acquire", 4)]], [[("jump", -1)]], [{}], [True], True, [good, "end"],
        ]:
            with self.subTest(programs=programs):
                kept = copy.deepcopy(programs)
                with self.assertRaises(NotValid) as caught:
                    World(programs, 1)
                self.assertIsInstance(caught.exception, CommonageError)
                self.assertIsInstance(caught.exception, ValueError)
                self.assertEqual(programs, kept)

    def test_pages(self):
        for pages in [0, -1, 13, 10 ** 400, -10 ** 400, True, False, None, "3", 2.0, (1,), [1], {}]:
            with self.subTest(pages=str(pages)[:9]):
                with self.assertRaises(NotValid):
                    World([[]], pages)

    def test_the_bounds(self):
        for machines in range(1, 5):
            for pages in range(1, 13):
                world = World([[("end",)]] * machines, pages)
                self.assertEqual(world.states(), ["run"] * machines)


class NewWorld(unittest.TestCase):
    def test_what_it_tells(self):
        for machines in range(1, 5):
            world = World([LOOP] * machines, 12)
            expected = ([[]] * machines, [], ["run"] * machines, [], [], [FIRST] * 48 * machines)
            self.assertEqual(told(world, machines), expected)
            self.assertEqual([type(part) for part in told(world, machines)], [list] * 6)

    def test_the_programs_that_were_passed_may_change(self):
        programs = [store_row(1, 5), store_row(2, 6)]
        kept = copy.deepcopy(programs)
        world = World(programs, 1)
        world.play([("step", 0)])
        programs[1].clear()
        programs.pop(0)
        world.play([("fall", 0), ("rise", 0), ("fall", 1), ("rise", 1)])
        self.assertTrue(world.settle(20))
        self.assertEqual(world.trace(), [[("store", 1, 5, (1, 0)), ("end",)], [("store", 2, 6, (1, 1)), ("end",)]])
        programs = copy.deepcopy(kept)
        World(programs, 1).settle(20)
        self.assertEqual(programs, kept)


class Steps(unittest.TestCase):
    def test_a_step(self):
        world = asking()
        self.assertEqual((world.net(), world.states()), ([ASK], ["run", "lock"]))
        self.assertEqual(world.waiting(), [(1, ("lock", 0))])

    def test_parcels_in_order_at_the_end(self):
        world = World([[("acquire", 1)], [*store_row(0, 1), *store_row(8, 2), ("acquire", 0)]], 3)
        self.assertEqual(world.play([("step", 0)] + [("step", 1)] * 7), [True] * 8)
        self.assertEqual(world.net(), [
            (0, 1, "parcel", (1, ("ask_lock", 1, (1, 0)))),
            (1, 0, "parcel", (1, ("difference", 0, 1, ((0, 1, (1, 1)),)))),
            (1, 0, "parcel", (2, ("difference", 2, 1, ((0, 2, (1, 1)),)))),
            (1, 0, "parcel", (3, ("ask_lock", 0, (0, 1)))),
        ])

    def test_where_it_changes_nothing(self):
        world = World([[("end",)], [("barrier",)], [("release", 0)], LOOP], 1)
        world.play([("step", machine) for machine in range(3)])
        world.play([("fall", 3)])
        self.assertEqual(world.states(), ["ended", "barrier", "fault", "down"])
        before = told(world, 4)
        self.assertEqual(world.play([("step", machine) for machine in range(4)]), [False] * 4)
        self.assertEqual(told(world, 4), before)

    def test_machines_are_taken_modulo(self):
        for machine in (1, 4, -2, -5, 10 ** 400 * 3 + 1):
            world = World([store_row(0, 1), [("acquire", 0)], store_row(0, 1)], 1)
            self.assertEqual(world.play([("step", machine)]), [True])
            self.assertEqual(world.states(), ["run", "lock", "run"])


class Items(unittest.TestCase):
    def three(self):
        """A world with three items in its net."""
        world = World([[("acquire", 1)], LOOP, [("acquire", 0)], [("acquire", 2)]], 1)
        world.play([("step", 0), ("step", 2), ("step", 3)])
        return world, world.net()

    def test_without_items(self):
        world = World([LOOP] * 2, 1)
        before = told(world, 2)
        for index in (-1, 0, 1, 7):
            self.assertEqual(world.play([("arrive", index), ("lose", index), ("double", index)]), [False] * 3)
        self.assertEqual(told(world, 2), before)

    def test_lose(self):
        for index in (0, 1, 2, 3, 4, 11, -1, -2, -3, -4, 3 * 10 ** 400):
            world, items = self.three()
            self.assertEqual(world.play([("lose", index)]), [True])
            del items[index % 3]
            self.assertEqual(world.net(), items)

    def test_double(self):
        for index in (0, 1, 2, 3, 4, 11, -1, -2, -3, -4, 3 * 10 ** 400):
            world, items = self.three()
            self.assertEqual(world.play([("double", index)]), [True])
            self.assertEqual(world.net(), [*items, items[index % 3]])

    def test_arrive(self):
        for index in (0, 1, 2, 3, 4, 11, -1, -2, -3, -4):
            world, items = self.three()
            self.assertEqual(world.play([("arrive", index)]), [True])
            source, target, _, (_, letter) = items.pop(index % 3)
            clock = (0, 0, 0, 0)
            grant = (target, source, "parcel", (1, ("grant", letter[1], 1, clock, ())))
            self.assertEqual(world.net(), [*items, grant, (target, source, "answer", 1)])

    def test_what_it_makes_goes_into_the_net_before_the_answer(self):
        world = asking()
        world.play([("double", 0), ("arrive", 0)])
        self.assertEqual(world.net(), [ASK, GRANT, (0, 1, "answer", 1)])
        # A parcel that is passed over is answered, too.
        world.play([("arrive", 0)])
        self.assertEqual(world.net(), [GRANT, (0, 1, "answer", 1), (0, 1, "answer", 1)])
        world.play([("arrive", 0)])
        self.assertEqual(world.net(), [(0, 1, "answer", 1), (0, 1, "answer", 1), (1, 0, "answer", 1)])
        self.assertEqual((world.states(), world.waiting()), (["run", "run"], []))
        self.assertEqual(world.trace(), [[], [("acquire", 0, 1)]])

    def test_a_parcel_that_is_too_far_ahead(self):
        world = World([[], [*store_row(0, 1), ("acquire", 0)]], 1)
        world.play([("step", 1)] * 4)
        world.play([("arrive", 1)])
        self.assertEqual(world.net()[1:], [(0, 1, "answer", 0)])
        self.assertEqual(world.states(), ["run", "lock"])

    def test_answers(self):
        world = asking()
        world.play([("arrive", 0), ("lose", 0)])
        self.assertEqual(world.play([("again", 1)]), [True])
        self.assertEqual(world.net(), [(0, 1, "answer", 1), ASK])
        self.assertEqual(world.play([("arrive", 0)]), [True])
        self.assertEqual(world.net(), [ASK])
        self.assertEqual(world.play([("again", 1)]), [False])
        self.assertEqual(world.net(), [ASK])

    def test_what_arrives_at_a_machine_that_is_down_is_lost(self):
        world = asking()
        world.play([("double", 0), ("fall", 0)])
        self.assertEqual(world.play([("arrive", 0)]), [True])
        self.assertEqual(world.net(), [ASK])
        world.play([("rise", 0), ("arrive", 0), ("lose", 0), ("fall", 1)])
        self.assertEqual(world.net(), [(0, 1, "answer", 1)])
        self.assertEqual(world.play([("arrive", 0), ("rise", 1), ("again", 1)]), [True] * 3)
        self.assertEqual(world.net(), [ASK])


class AgainAndAnswer(unittest.TestCase):
    def test_by_target_and_in_order(self):
        program = [*store_row(8, 1), *store_row(0, 2), ("acquire", 2)]
        world = World([LOOP, program, LOOP], 3)
        world.play([("step", 1)] * 7)
        sent = world.net()
        self.assertEqual([item[1] for item in sent], [0, 2, 2])
        world.play([("lose", 0)] * 3)
        self.assertEqual(world.play([("again", 1)]), [True])
        self.assertEqual(world.net(), sent)
        self.assertEqual(world.play([("again", -2)]), [True])
        self.assertEqual(world.net(), sent + sent)

    def test_targets_ascending(self):
        # The homes of the pages 2 and 4 are the machines 2 and 1.
        world = World([[*store_row(8, 1), *store_row(16, 1), ("acquire", 0)], LOOP, LOOP], 5)
        world.play([("step", 0)] * 7)
        self.assertEqual([item[1] for item in world.net()], [2, 1])
        world.play([("lose", 0), ("lose", 0), ("again", 0)])
        self.assertEqual([(item[1], item[3][0]) for item in world.net()], [(1, 1), (2, 1)])

    def test_where_there_is_nothing_to_send(self):
        world = World([LOOP, [("acquire", 0)]], 1)
        self.assertEqual(world.play([("again", 0), ("again", 1)]), [False, False])
        world.play([("step", 1), ("fall", 1)])
        self.assertEqual(world.play([("again", 1)]), [False])
        self.assertEqual(world.net(), [ASK])

    def test_answer(self):
        world = asking()
        self.assertEqual(world.play([("answer", 0, 1)]), [True])
        self.assertEqual(world.net(), [ASK, (0, 1, "answer", 0)])
        world.play([("arrive", 0), ("answer", 2, -1)])
        self.assertEqual(world.net()[-1], (0, 1, "answer", 1))
        self.assertEqual(world.play([("answer", 1, 4)]), [True])
        self.assertEqual(world.net()[-1], (1, 0, "answer", 0))

    def test_answers_that_change_nothing(self):
        world = asking()
        before = told(world, 2)
        self.assertEqual(world.play([("answer", 0, 0), ("answer", 1, 1), ("answer", 0, 2), ("answer", 1, -1)]), [False] * 4)
        self.assertEqual(told(world, 2), before)
        world.play([("fall", 0)])
        self.assertEqual(world.play([("answer", 0, 1)]), [False])
        self.assertEqual(world.play([("answer", 1, 0)]), [True])
        self.assertEqual(world.net(), [ASK, (1, 0, "answer", 0)])


class SaveFallRise(unittest.TestCase):
    def test_fall(self):
        world = World([store_row(1, 5), [("acquire", 0)]], 1)
        world.play([("step", 0)] * 3 + [("step", 1)])
        self.assertEqual(world.play([("fall", 0), ("fall", 0), ("fall", 2)]), [True, False, False])
        self.assertEqual((world.states(), world.waiting()), (["down", "lock"], [(1, ("lock", 0))]))
        self.assertEqual(world.trace(), [[("store", 1, 5, (1, 0))], []])
        self.assertEqual((world.word(0, 1), world.word(1, 1)), (None, FIRST))
        self.assertEqual((world.races(), world.net()), ([], [ASK]))
        self.assertEqual(world.play([("fall", -1), ("fall", 1)]), [True, False])
        self.assertEqual((world.states(), world.waiting()), (["down", "down"], []))

    def test_what_is_not_on_the_disk_is_lost(self):
        world = World([store_row(1, 5)], 1)
        world.play([("step", 0)] * 3 + [("fall", 0)])
        self.assertEqual(world.trace(), [[("store", 1, 5, (1, 0))]])
        self.assertEqual(world.play([("rise", 0), ("rise", 0)]), [True, False])
        self.assertEqual((world.trace(), world.word(0, 1), world.states()), ([[]], FIRST, ["run"]))

    def test_a_save_keeps_it(self):
        world = World([store_row(1, 5), LOOP], 1)
        self.assertEqual(world.play([("step", 0)] * 3 + [("save", 2)]), [True] * 4)
        world.play([("step", 0), ("fall", 0)])
        self.assertEqual(world.trace()[0], [("store", 1, 5, (1, 0)), ("end",)])
        world.play([("rise", 0)])
        self.assertEqual((world.trace()[0], world.word(0, 1)), ([("store", 1, 5, (1, 0))], (5, (1, 0))))

    def test_save_of_a_machine_that_is_down(self):
        world = World([store_row(1, 5)], 1)
        world.play([("step", 0)] * 3)
        self.assertEqual(world.play([("fall", 0), ("save", 0), ("rise", 0), ("save", 0)]), [True, False, True, True])
        self.assertEqual(world.trace(), [[]])

    def test_rise_puts_nothing_into_the_net(self):
        world = asking()
        world.play([("lose", 0), ("fall", 1), ("rise", 1)])
        self.assertEqual((world.net(), world.states()), ([], ["run", "lock"]))
        self.assertEqual(world.play([("again", 1)]), [True])
        self.assertEqual(world.net(), [ASK])

    def test_rise_of_a_machine_that_is_up(self):
        world = asking()
        before = told(world, 2)
        self.assertEqual(world.play([("rise", 0), ("rise", 1), ("rise", 7)]), [False] * 3)
        self.assertEqual(told(world, 2), before)

    def test_disks_of_different_machines(self):
        world = World([store_row(1, 5), store_row(2, 6)], 1)
        world.play([("step", machine) for machine in (0, 1) for _ in range(3)])
        world.play([("save", 0), ("fall", 0), ("fall", 1), ("rise", 0), ("rise", 1)])
        self.assertEqual(world.trace(), [[("store", 1, 5, (1, 0))], []])


class Play(unittest.TestCase):
    def test_no_acts(self):
        self.assertEqual(asking().play([]), [])

    def test_the_acts_do_not_change(self):
        acts = [("step", 1), ("arrive", -7), ("answer", 0, 1), ("fall", 9)]
        kept = copy.deepcopy(acts)
        result = asking().play(acts)
        self.assertEqual(acts, kept)
        self.assertEqual((result, type(result)), ([False, True, True, True], list))

    def test_what_was_returned_does_not_change(self):
        world = World([[("acquire", 1), *store_row(1, 4)], [("acquire", 0), *store_row(1, 5)]], 1)
        kept = []
        acts = [(word, at) for at in range(9) for word in (*ACTS, "step", "arrive")]
        for act in acts:
            parts = [world.trace(), world.states(), world.net(), world.waiting(), world.races()]
            kept.append((parts, copy.deepcopy(parts)))
            world.play([act])
        world.settle(50)
        for parts, before in kept:
            self.assertEqual(parts, before)

    def test_changing_what_was_returned_changes_nothing(self):
        program = [*store_row(1, 5), ("barrier",)]
        world = World([program, program], 1)
        for acts in ([], [("fall", 1)], [("fall", 0)]):
            world.settle(20)
            world.play(acts)
            before = told(world, 2)
            for part in (world.trace(), *world.trace(), world.races(), world.states(), world.waiting(), world.net()):
                part.clear()
            self.assertEqual(told(world, 2), before)


class Settling(unittest.TestCase):
    def test_nothing_to_do(self):
        world = World([[("end",)]], 1)
        self.assertIs(world.settle(0), False)
        self.assertEqual(world.states(), ["run"])
        self.assertIs(world.settle(1), False)
        self.assertEqual(world.states(), ["ended"])
        self.assertIs(world.settle(1), True)
        self.assertIs(world.settle(0), False)
        self.assertIs(world.settle(-3), False)

    def test_20_steps_in_a_round(self):
        world = World([[("set", 1, 1), *[("store", 0, 1)] * 60]], 1)
        for rounds, stores in [(1, 19), (1, 39), (0, 39), (1, 59), (1, 60)]:
            self.assertIs(world.settle(rounds), False)
            self.assertEqual(sum(event[0] == "store" for event in world.trace()[0]), stores)
        self.assertIs(world.settle(5), True)

    def test_enough_and_too_few_rounds(self):
        for rounds in range(8):
            world = World([[("set", 0, 1)] * 50], 1)
            # 51 steps are made in three rounds; the fourth one makes none.
            self.assertIs(world.settle(rounds), rounds >= 4)
            self.assertEqual(world.states(), ["ended" if rounds >= 3 else "run"])

    def test_an_endless_program_never_settles(self):
        world = World([LOOP, [("end",)]], 1)
        self.assertIs(world.settle(30), False)

    def test_machines_that_wait_for_each_other(self):
        world = World([[("acquire", 0), ("acquire", 1)], [("acquire", 1), ("acquire", 0)], [("barrier",)]], 1)
        self.assertIs(world.settle(30), True)
        self.assertEqual(world.states(), ["lock", "lock", "barrier"])
        self.assertEqual(world.waiting(), [(0, ("lock", 1)), (1, ("lock", 0)), (2, ("barrier",))])

    def test_all_items_arrive_in_order(self):
        world = asking()
        world.play([("double", 0), ("answer", 0, 1)])
        self.assertIs(world.settle(1), False)
        self.assertEqual(world.net(), [])
        self.assertEqual(world.trace(), [[], [("acquire", 0, 1)]])

    def test_what_was_lost_is_sent_again(self):
        world = asking()
        world.play([("lose", 0)])
        self.assertIs(world.settle(1), False)
        self.assertEqual(world.trace()[1], [("acquire", 0, 1)])
        # Answers have come back: nothing is kept any longer.
        self.assertEqual(world.play([("again", 0), ("again", 1)]), [False, False])

    def test_answers_come_at_the_end_of_a_round(self):
        world = asking()
        world.play([("arrive", 0), ("lose", 1), ("arrive", 0), ("lose", 0)])
        self.assertEqual(world.net(), [])
        world.play([("fall", 0), ("fall", 1)])
        world.settle(1)
        self.assertEqual(world.net(), [])
        self.assertEqual(world.play([("again", 0), ("again", 1)]), [False, False])

    def test_machines_that_are_down_come_back(self):
        world = World([store_row(1, 5), store_row(2, 6)], 1)
        world.play([("fall", 0), ("fall", 1)])
        self.assertIs(world.settle(0), False)
        self.assertEqual(world.states(), ["down", "down"])
        self.assertIs(world.settle(10), True)
        self.assertEqual(world.states(), ["ended", "ended"])
        world.play([("fall", 0)])
        # To come back alone is neither a step nor a letter.
        self.assertIs(world.settle(1), True)
        self.assertEqual(world.states(), ["ended", "ended"])

    def test_the_order_within_a_round(self):
        # Both ask for the lock 0: machine 0 makes its steps first, and manages the lock.
        world = World([[("acquire", 0), ("jump", 1)], [("acquire", 0)]], 1)
        world.settle(1)
        self.assertEqual(world.trace(), [[("acquire", 0, 1)], []])
        self.assertEqual(world.waiting(), [(1, ("lock", 0))])
        # Of two that ask by letters the lesser one is the first.
        world = World([LOOP, LOOP, [("acquire", 1), ("jump", 1)], [("acquire", 1)]], 1)
        world.settle(1)
        self.assertEqual(world.waiting(), [(3, ("lock", 1))])


class Telling(unittest.TestCase):
    def test_word(self):
        world = World([store_row(6, 9), LOOP], 2)
        world.play([("step", 0)] * 3)
        for machine, address, cell in [
            (0, 6, (9, (1, 0))), (0, 14, (9, (1, 0))), (0, -2, (9, (1, 0))), (2, 6, (9, (1, 0))), (-2, 6, (9, (1, 0))),
            (0, 5, FIRST), (1, 6, FIRST), (0, 10 ** 400 * 8 + 6, (9, (1, 0))),
        ]:
            self.assertEqual(world.word(machine, address), cell)
        world.play([("fall", 0)])
        self.assertIsNone(world.word(0, 6))
        self.assertEqual(world.word(1, 6), FIRST)

    def test_races(self):
        program = [*store_row(1, 5), ("barrier",)]
        world = World([program, program], 1)
        self.assertEqual(world.races(), [])
        world.settle(20)
        papers = [(1, (0, 1, (1, 0), "store"), (1, 1, (0, 1), "store"))]
        self.assertEqual(world.races(), papers)
        world.play([("fall", 1)])
        self.assertEqual(world.races(), papers)
        world.play([("fall", 0)])
        self.assertEqual(world.races(), [])
        world.play([("rise", 0)])
        self.assertEqual(world.races(), papers)

    def test_waiting(self):
        program = [("acquire", 1), *store_row(0, 1), ("release", 1), ("barrier",)]
        world = World([[("barrier",)], program, [("acquire", 1), *load_row(0), ("jump", 3)], [("acquire", 2)]], 1)
        world.play([("step", 3), ("step", 0), ("step", 2)])
        world.play([("step", 1)] * 5)
        waiting = world.waiting()
        self.assertEqual(waiting, [(0, ("barrier",)), (2, ("lock", 1)), (3, ("lock", 2))])
        # The ask of machine 2 and the grant arrive; the differences do not.
        ask = [at for at, item in enumerate(world.net()) if item[:2] == (2, 1)][0]
        world.play([("arrive", ask)])
        grant = [at for at, item in enumerate(world.net()) if item[:3] == (1, 2, "parcel")][0]
        world.play([("arrive", grant), ("step", 2), ("step", 2)])
        self.assertEqual(world.waiting(), [(0, ("barrier",)), (2, ("page", 0)), (3, ("lock", 2))])
        self.assertEqual(world.states(), ["barrier", "run", "page", "lock"])

    def test_the_trace_of_a_machine_that_fell(self):
        world = World([[("acquire", 1), *store_row(1, 5)], [("end",)]], 1)
        world.settle(1)
        before = world.trace()
        world.play([("fall", 0), ("fall", 1)])
        self.assertEqual(world.trace(), before)
        world.play([("rise", 0), ("rise", 1)])
        self.assertEqual(world.trace()[0][0], ("acquire", 1, 1))


if __name__ == "__main__":
    unittest.main()
