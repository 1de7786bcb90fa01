"""Points [28] to [30]: what nodes write to their disks, and how they come back."""

import collections
import random
import unittest

from commonage.logs import Disk
from commonage.nodes import Node
from plays import Nodes, disk_like, load_row, program_by_chance, store_row, told_by

NOTHING = tuple((place, 0, (0, 0)) for place in range(4))


class WatchedDisk(Disk):
    """A disk that notes what the node told of itself when something was written."""

    def __init__(self):
        Disk.__init__(self)
        self.node, self.seen = None, []

    def write(self, entry):
        self.seen.append((entry, told_by(self.node, 3, 1)))
        Disk.write(self, entry)


class Entries(unittest.TestCase):
    def test_a_new_node_writes_nothing(self):
        disk = Disk()
        Node(0, 2, store_row(0, 1), 1, disk)
        self.assertEqual((disk.entries(), disk.saved()), ([], None))

    def test_steps_that_send_nothing(self):
        nodes = Nodes([[*store_row(0, 1), *load_row(0), ("acquire", 0), ("release", 0), ("barrier",)]])
        nodes.run(0)
        self.assertEqual(nodes.states(), ["ended"])
        self.assertEqual(nodes.disks[0].entries(), [])

    def test_steps_that_send(self):
        nodes = Nodes([[], [*store_row(0, 1), ("acquire", 1), ("release", 1), *store_row(1, 1), ("acquire", 0)]])
        nodes.run(1)
        # Each of the differences goes with the step that ends the interval, the second one before an ask.
        self.assertEqual(nodes.disks[1].entries(), [("steps", 4), ("steps", 9)])
        self.assertEqual([type(entry) for entry in nodes.disks[1].entries()], [tuple, tuple])
        self.assertEqual(len(nodes.rows[1, 0]), 3)

    def test_letters(self):
        nodes = Nodes([[("set", 0, 1), ("set", 0, 2)], [("acquire", 0), ("barrier",)]])
        nodes.step(0, 2)
        nodes.step(1)
        nodes.deliver_all()
        self.assertEqual(nodes.disks[0].entries(), [("letter", 2, 1, (1, ("ask_lock", 0, (0, 1))))])
        self.assertEqual(nodes.disks[1].entries(), [
            ("steps", 1), ("letter", 1, 0, (1, ("grant", 0, 1, (0, 0), ()))),
        ])
        nodes.step(1)
        nodes.deliver_all()
        nodes.step(0)
        self.assertEqual(nodes.disks[0].entries()[1:], [
            ("letter", 2, 1, (2, ("come", (0, 2), (), False))), ("steps", 3),
        ])

    def test_parcels_that_are_passed_over(self):
        disk = Disk()
        node = Node(0, 2, [], 1, disk)
        letter = ("ask_page", 0, (0, 0))
        node.take(1, (2, letter))
        self.assertEqual(disk.entries(), [])
        node.take(1, (1, letter))
        node.take(1, (1, letter))
        node.take(1, (3, letter))
        self.assertEqual(disk.entries(), [("letter", 0, 1, (1, letter))])

    def test_no_step_no_entry(self):
        nodes = Nodes([[], [("barrier",)]])
        nodes.step(1, 4)
        self.assertEqual(nodes.disks[1].entries(), [("steps", 1)])

    def test_confirming_and_sending_again_write_nothing(self):
        nodes = Nodes([[], [("barrier",)]])
        nodes.step(1)
        nodes.nodes[1].again(0)
        nodes.nodes[1].answer(0)
        nodes.nodes[1].confirm(0, 1)
        self.assertEqual(nodes.disks[1].entries(), [("steps", 1)])

    def test_a_letter_is_written_before_anything_comes_of_it(self):
        disk = WatchedDisk()
        node = disk.node = Node(1, 3, [("acquire", 1), ("acquire", 0), *load_row(0)], 1, disk)
        node.step()
        node.step()
        before = told_by(node, 3, 1)
        parcel = (1, ("grant", 0, 1, (1, 0, 0), ((0, 1, (1, 0, 0), (), (0,)),)))
        node.take(0, parcel)
        entry, seen = disk.seen[-1]
        self.assertEqual(entry, ("letter", 2, 0, parcel))
        for name in ("state", "clock", "events", "known", "waits", "answers"):
            self.assertEqual(seen[name], before[name])
            self.assertNotEqual(seen[name], told_by(node, 3, 1)[name])
        rows = tuple((place, 5, (1, 0)) for place in range(4))
        before = told_by(node, 3, 1)
        node.take(0, (2, ("page", 0, rows, (1, 0, 0))))
        self.assertEqual(disk.seen[-1][1]["copies"], before["copies"])
        self.assertNotEqual(told_by(node, 3, 1)["copies"], before["copies"])

    def test_a_save_empties_the_log(self):
        nodes = Nodes([[], [("barrier",)]])
        nodes.step(1)
        self.assertIsNone(nodes.nodes[1].save())
        self.assertEqual(nodes.disks[1].entries(), [])
        self.assertIsNotNone(nodes.disks[1].saved())

    def test_going_on_does_not_change_a_save(self):
        nodes = Nodes([[*store_row(1, 4), ("barrier",), *store_row(2, 5)], []])
        nodes.step(0, 2)
        nodes.nodes[0].save()
        saved = nodes.disks[0].saved()
        nodes.settle()
        self.assertEqual(nodes.disks[0].saved(), saved)


class ComingBack(unittest.TestCase):
    def comes_back(self, nodes, machine, expected):
        """The node is as expected behind a fall, and right behind another one."""
        pages, machines = nodes.pages, len(nodes.programs)
        entries, saved = nodes.disks[machine].entries(), nodes.disks[machine].saved()
        for _ in range(3):
            node = nodes.come_back(machine)
            self.assertEqual(told_by(node, machines, pages), expected)
            self.assertEqual((nodes.disks[machine].entries(), nodes.disks[machine].saved()), (entries, saved))
        return node

    def test_without_anything_on_the_disk_it_begins_anew(self):
        nodes = Nodes([[*store_row(0, 1), ("acquire", 0)]])
        anew = told_by(nodes.nodes[0], 1, 1)
        nodes.run(0)
        self.comes_back(nodes, 0, anew)
        nodes.run(0)
        self.assertEqual(nodes.trace(), [[("store", 0, 1, (1, 0)), ("acquire", 0, 1), ("release", 0, 1), ("end",)]])

    def test_from_a_log_alone(self):
        nodes = Nodes([[("acquire", 0), *store_row(0, 2)], [*store_row(1, 1), ("acquire", 0), *load_row(0), ("jump", 4)]])
        nodes.step(0, 4)
        nodes.step(1, 4)
        asked = told_by(nodes.nodes[1], 2, 1)
        kept = nodes.nodes[1].again(0)
        self.assertEqual([letter[0] for _, letter in kept], ["difference", "ask_lock"])
        self.assertEqual(self.comes_back(nodes, 1, asked).again(0), kept)
        nodes.deliver_all()
        nodes.step(0)
        nodes.deliver(0, 1)
        granted = told_by(nodes.nodes[1], 2, 1)
        self.assertEqual((granted["state"], granted["events"][-1]), ("run", ("acquire", 0, 2)))
        nodes.step(1)
        # The step is lost: nobody has heard of it.
        self.comes_back(nodes, 1, granted)
        nodes.step(1, 2)
        waits = told_by(nodes.nodes[1], 2, 1)
        self.assertEqual(waits["waits"], ("page", 0))
        kept = nodes.nodes[1].again(0)
        self.assertEqual(kept[-1], (3, ("ask_page", 0, (2, 0))))
        self.assertEqual(self.comes_back(nodes, 1, waits).again(0), kept)
        nodes.deliver_all()
        ready = told_by(nodes.nodes[1], 2, 1)
        self.assertEqual((ready["state"], ready["steps"]), ("run", 6))
        self.comes_back(nodes, 1, ready)

    def test_from_a_save_alone(self):
        nodes = Nodes([[("barrier",)], [*store_row(1, 1), ("barrier",), *load_row(1), ("jump", 4)]])
        nodes.step(0)
        nodes.step(1, 4)
        nodes.deliver_all()
        nodes.step(1, 7)
        nodes.nodes[1].save()
        expected = told_by(nodes.nodes[1], 2, 1)
        kept = nodes.nodes[1].again(0)
        self.assertEqual((expected["steps"], len(kept)), (11, 2))
        nodes.step(1, 5)
        self.assertEqual(self.comes_back(nodes, 1, expected).again(0), kept)

    def test_from_a_save_and_a_log(self):
        nodes = Nodes([[], [*store_row(0, 1), ("acquire", 1), *store_row(1, 1), ("acquire", 3), *store_row(2, 1), ("barrier",)]])
        nodes.step(1, 4)
        nodes.nodes[1].confirm(0, 1)
        nodes.step(1)
        nodes.nodes[1].save()
        nodes.step(1, 7)
        nodes.nodes[1].confirm(0, 3)
        expected = told_by(nodes.nodes[1], 2, 1)
        self.assertEqual(nodes.disks[1].entries(), [("steps", 8), ("steps", 12)])
        self.assertEqual(nodes.nodes[1].again(0)[0][0], 4)
        node = self.comes_back(nodes, 1, expected)
        # What was confirmed since the save is kept again; what was confirmed before the save is not.
        self.assertEqual([number for number, _ in node.again(0)], [2, 3, 4])
        self.assertEqual([letter[0] for _, letter in node.again(0)], ["difference", "difference", "come"])

    def test_answers_of_what_was_taken(self):
        nodes = Nodes([[], []])
        node = nodes.nodes[0]
        letter = ("ask_page", 0, (0, 0))
        for number in (1, 2):
            node.take(1, (number, letter))
        node.save()
        node.take(1, (3, letter))
        sent = node.again(1)
        node = nodes.come_back(0)
        self.assertEqual((node.answer(1), node.again(1)), (3, sent))
        self.assertEqual(node.take(1, (3, letter)), [])
        self.assertEqual(node.take(1, (4, letter)), [(1, (4, ("page", 0, NOTHING, (0, 0))))])

    def test_it_goes_on_with_the_same_numbers(self):
        nodes = Nodes([[], [("acquire", 0), ("release", 0), ("barrier",)]])
        nodes.step(1)
        nodes.deliver_all()
        node = nodes.come_back(1)
        self.assertEqual(node.step(), [(0, (2, ("let_go", 0, (0, 2), ())))])

    def test_the_master(self):
        program = [*store_row(0, 1), ("barrier",), *store_row(1, 2), ("barrier",), ("jump", 8)]
        nodes = Nodes([program, program], 2)
        nodes.step(0, 4)
        nodes.step(1, 4)
        nodes.deliver_all()
        expected = told_by(nodes.nodes[0], 2, 2)
        self.assertEqual((len(expected["races"]), expected["state"]), (1, "run"))
        kept = nodes.nodes[0].again(1)
        self.assertEqual(self.comes_back(nodes, 0, expected).again(1), kept)
        nodes.nodes[0].save()
        nodes.step(0, 4)
        # Machine 1 has to wait for the page first.
        for steps in (3, 2):
            nodes.step(1, steps)
            nodes.deliver_all()
        expected = told_by(nodes.nodes[0], 2, 2)
        self.assertEqual((len(expected["races"]), expected["events"][-1]), (2, ("barrier", 2)))
        self.comes_back(nodes, 0, expected)

    def test_a_manager(self):
        nodes = Nodes([[], [("acquire", 0), ("jump", 1)], [("acquire", 0)]])
        for machine in (1, 2):
            nodes.step(machine)
            nodes.deliver_all()
        expected = told_by(nodes.nodes[0], 3, 1)
        self.assertEqual(expected["holders"][0], 1)
        self.comes_back(nodes, 0, expected)
        self.assertEqual(nodes.nodes[0].take(1, (2, ("let_go", 0, (0, 2, 0), ()))), [
            (2, (1, ("grant", 0, 2, (0, 2, 0), ()))),
        ])

    def test_asks_that_wait(self):
        nodes = Nodes([[], [], []])
        nodes.nodes[0].take(1, (1, ("ask_page", 0, (0, 0, 2))))
        nodes.nodes[0].save()
        nodes.nodes[0].take(2, (1, ("ask_page", 0, (0, 1, 2))))
        nodes.come_back(0)
        sent = nodes.nodes[0].take(2, (2, ("page", 0, NOTHING, (0, 3, 2))))
        self.assertEqual([target for target, _ in sent], [1, 2])

    def test_ended_nodes(self):
        for program, state in (([("end",)], "ended"), ([("release", 3)], "fault")):
            nodes = Nodes([[("jump", 0)], program])
            nodes.step(1)
            expected = told_by(nodes.nodes[1], 2, 1)
            self.assertEqual(expected["state"], state)
            self.comes_back(nodes, 1, expected)
            nodes.nodes[1].save()
            self.comes_back(nodes, 1, expected)


class ByChance(unittest.TestCase):
    """At any time a node that comes back is as it was when it, or its disk, told the others of itself last."""

    def test_each_node_after_each_act(self):
        counts = collections.Counter()
        for seed in range(50):
            self.play(random.Random(seed), 1 + seed % 4, counts)
        for word in ("run", "lock", "barrier", "page", "ended", "fault", "fall", "save", "again"):
            self.assertGreater(counts[word], 10, word)

    def play(self, chance, machines, counts):
        self.nodes = Nodes([program_by_chance(chance, 8, 30) for _ in range(machines)], 2)
        self.last = [told_by(node, machines, 2) for node in self.nodes.nodes]
        self.kept = [[[] for _ in range(machines)] for _ in range(machines)]
        self.saved = [[[] for _ in range(machines)] for _ in range(machines)]
        for _ in range(250):
            machine = chance.randrange(machines)
            self.act(chance, machine, counts)
            self.compare(machine, counts)

    def act(self, chance, machine, counts):
        nodes, kind = self.nodes, chance.random()
        rows = [row for row in nodes.under_way() if row[1] == machine]
        if kind < 0.02:
            nodes.nodes[machine].save()
            self.saved[machine] = [list(row) for row in self.kept[machine]]
            self.remember(machine)
            counts["save"] += 1
        elif kind < 0.05:
            nodes.come_back(machine)
            # Confirmations since the save are forgotten.
            self.kept[machine] = [self.saved[machine][to][:] for to in range(len(nodes.nodes))]
            counts["fall"] += 1
        elif kind < 0.15:
            target = chance.randrange(len(nodes.nodes))
            number = nodes.nodes[target].answer(machine)
            nodes.nodes[machine].confirm(target, number)
            self.kept[machine][target] = [parcel for parcel in self.kept[machine][target] if parcel[0] > number]
            counts["again"] += number > 0
        elif rows and kind < 0.6:
            source = chance.choice(rows)[0]
            before = nodes.nodes[machine].answer(source)
            self.send(machine, nodes.nodes[machine].take(source, nodes.rows[source, machine].pop(0)))
            self.assertEqual(nodes.nodes[machine].answer(source), before + 1)
            self.remember(machine)
        else:
            sent = nodes.nodes[machine].step()
            self.send(machine, sent)
            if sent:
                self.remember(machine)

    def send(self, machine, sent):
        self.nodes.put(machine, sent)
        for target, parcel in sent:
            self.kept[machine][target].append(parcel)
            self.saved[machine][target].append(parcel)

    def remember(self, machine):
        self.last[machine] = told_by(self.nodes.nodes[machine], len(self.nodes.nodes), 2)

    def compare(self, machine, counts):
        """What another node made of the disk tells; what the node itself keeps."""
        nodes, machines = self.nodes, len(self.nodes.nodes)
        disk = disk_like(nodes.disks[machine])
        other = Node(machine, machines, nodes.programs[machine], 2, disk)
        self.assertEqual(told_by(other, machines, 2), self.last[machine])
        self.assertEqual([other.again(target) for target in range(machines)], self.saved[machine])
        node = nodes.nodes[machine]
        self.assertEqual([node.again(target) for target in range(machines)], self.kept[machine])
        counts[node.state()] += 1


if __name__ == "__main__":
    unittest.main()
