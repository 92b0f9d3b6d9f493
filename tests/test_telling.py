"""Points 15 and 17 to 22, and the heading raisedwreck/telling.py."""

import copy
import random
import unittest

from raisedwreck.errors import InvalidSketch
from raisedwreck.machines import Machine
from raisedwreck.telling import Answer, Paper, tell
from tests import samples


class Papers(unittest.TestCase):
    """The classes Paper and Answer."""

    def test_a_paper_copies_its_lists_into_tuples(self):
        sketches, cover, table = [(1, 3), (2, 3)], [0], [[[], [1, 0]], [[0], []]]
        paper = Paper(sketches, cover, table)
        sketches.append((3, 3))
        cover[0] = 1
        table[0][1].append(7)
        table[1].clear()
        self.assertEqual(paper.sketches, ((1, 3), (2, 3)))
        self.assertEqual(paper.cover, (0,))
        self.assertEqual(paper.table, (((), (1, 0)), ((0,), ())))

    def test_an_empty_paper(self):
        paper = Paper([], [], [])
        self.assertEqual((paper.sketches, paper.cover, paper.table), ((), (), ()))

    def test_an_answer_that_is_told(self):
        paper = Paper([], [], [])
        answer = Answer(True, paper, None, None)
        self.assertIs(answer.told, True)
        self.assertEqual(answer.paper.sketches, ())
        self.assertIsNone(answer.disk)
        self.assertIsNone(answer.deeds)

    def test_an_answer_that_is_not_told(self):
        deeds = [1, 0]
        answer = Answer(False, None, (0, 1), deeds)
        deeds.append(2)
        self.assertIs(answer.told, False)
        self.assertIsNone(answer.paper)
        self.assertEqual((answer.disk, answer.deeds), ((0, 1), (1, 0)))

    def test_equal_papers_and_answers(self):
        self.assertEqual(Paper([(1,)], [0], [[[]]]), Paper(((1,),), (0,), (((),),)))
        for other in (Paper([(2,)], [0], [[[]]]), Paper([(1,)], [1], [[[]]]), Paper([(1,)], [0], [[[0]]]), None):
            self.assertNotEqual(Paper([(1,)], [0], [[[]]]), other)
        self.assertEqual(Answer(False, None, (0,), [1]), Answer(False, None, (0,), (1,)))
        for other in (Answer(False, None, (1,), [1]), Answer(False, None, (0,), []), Answer(True, None, (0,), [1]),
                      Answer(False, Paper([], [], []), (0,), [1]), (False, None, (0,), (1,))):
            self.assertNotEqual(Answer(False, None, (0,), [1]), other)


class Telling(unittest.TestCase):
    """Points 19 to 22."""

    def check(self, machine, image, piece):
        """Compare the answer with a walk over all disks; return True if the piece is told."""
        least = samples.least_deeds(machine, image, piece)
        answer = tell(machine, image, piece)
        self.assertIsInstance(answer, Answer)
        self.assertIs(answer.told, least is None)
        if answer.told:
            self.assertIsNone(answer.disk)
            self.assertIsNone(answer.deeds)
            self.check_paper(machine, image, piece, answer.paper)
        else:
            self.assertIsNone(answer.paper)
            self.check_history(machine, image, piece, answer, least)
        return answer.told

    def check_paper(self, machine, image, piece, paper):
        self.assertIsInstance(paper, Paper)
        self.assertIsInstance(paper.sketches, tuple)
        self.assertIsInstance(paper.cover, tuple)
        for row in (paper.table, *paper.table):
            self.assertTrue(isinstance(row, tuple) and all(isinstance(entry, tuple) for entry in row))
        self.assertTrue(samples.plain_judge(machine, image, piece, paper))

    def check_history(self, machine, image, piece, answer, least):
        self.assertIsInstance(answer.deeds, tuple)
        self.assertEqual(len(answer.deeds), least)
        disk = answer.disk
        self.assertIn(disk, samples.disks_of(machine))
        self.assertTrue(samples.is_in(disk, machine.first))
        for deed in answer.deeds:
            self.assertFalse(samples.is_in_some(disk, piece))
            disk = samples.done(machine, disk, deed)
            self.assertIsNotNone(disk)
        self.assertFalse(samples.is_in_some(disk, piece))
        self.assertTrue(samples.is_in(disk, image))

    def test_the_example(self):
        machine = samples.three_steps()
        self.assertEqual((tell(machine, (4,), [(2,)]).told, tell(machine, (6,), [(4,)]).deeds), (True, (0,)))

    def test_all_questions_about_three_steps(self):
        machine = samples.three_steps()
        for image in range(1, 8):
            for sketch in range(1, 8):
                self.check(machine, (image,), [(sketch,)])

    def test_many_machines(self):
        dice = random.Random(19)
        told = 0
        for _ in range(500):
            machine = samples.random_machine(dice)
            told += self.check(machine, *samples.random_question(dice, machine))
        self.assertTrue(100 < told < 400)

    def test_larger_machines(self):
        dice = random.Random(20)
        told = 0
        for _ in range(40):
            machine = samples.random_machine(dice, 5, 4, 10)
            told += self.check(machine, *samples.random_question(dice, machine))
        self.assertTrue(2 < told < 38)

    def test_contradictory_images(self):
        machine = samples.swapping()
        for image in ((1, 1), (2, 2)):
            for piece in ([], [(3, 3)], [(1, 2)]):
                self.assertTrue(self.check(machine, image, piece))

    def test_the_empty_piece_is_told_for_contradictory_images_only(self):
        machine = samples.swapping()
        for image in ((1, 2), (2, 1), (3, 3), (3, 2)):
            self.assertFalse(self.check(machine, image, []))
        dice = random.Random(21)
        for _ in range(60):
            machine = samples.random_machine(dice)
            self.check(machine, samples.random_sketch(dice, machine.full), [])

    def test_the_piece_that_all_disks_have(self):
        dice = random.Random(22)
        for _ in range(30):
            machine = samples.random_machine(dice)
            self.assertTrue(self.check(machine, samples.random_sketch(dice, machine.full), [machine.full]))
        self.assertTrue(self.check(samples.three_steps(), (7,), [(1,), (6,)]))

    def test_the_first_disk_may_have_the_piece(self):
        self.assertTrue(self.check(samples.three_steps(), (7,), [(1,)]))

    def test_the_last_disk_may_have_the_piece(self):
        self.assertTrue(self.check(samples.three_steps(), (4,), [(4,)]))

    def test_a_history_without_deeds(self):
        self.assertEqual(tell(samples.three_steps(), (7,), [(6,)]).deeds, ())

    def test_a_machine_without_deeds(self):
        machine = Machine([("a", 2)], [], (1,))
        self.assertTrue(self.check(machine, (2,), []))
        self.assertFalse(self.check(machine, (3,), [(2,)]))

    def test_histories_may_be_long(self):
        machine = samples.counter(9)
        answer = tell(machine, (2,) * 9, [])
        self.assertEqual((answer.told, answer.disk, len(answer.deeds)), (False, (0,) * 9, 511))
        self.check(samples.counter(5), (2,) * 5, [(1, 2, 1, 2, 1)])
        self.check(samples.counter(5), (2, 1, 1, 2, 1), [(1, 2, 1, 2, 1)])

    def test_more_disks_than_a_walk_could_see(self):
        # Each cell may become 1 only when the cell before it is 1.
        cells = [(f"c{number}", 16) for number in range(24)]
        deeds = [("d0", (), ((0, ("set", 1)),))]
        deeds += [(f"d{number}", ((number - 1, 2),), ((number, ("set", 1)),)) for number in range(1, 24)]
        machine = Machine(cells, deeds, (1,) * 24)
        some, last = (65535,) * 23, (65535,) * 23 + (2,)
        self.assertEqual(tell(machine, last, []).deeds, tuple(range(24)))
        self.assertIs(tell(machine, some + (65532,), []).told, True)
        for cell in range(23):
            touched = some[:cell] + (2,) + some[cell:]
            self.assertIs(tell(machine, last, [touched]).told, True)
        self.assertIs(tell(machine, last, [some + (4,), (4,) + some]).told, False)


class ClosedLists(unittest.TestCase):
    """Points 17 and 18: the list of a paper, with its disks one by one."""

    def test_the_list_covers_is_closed_and_all_its_disks_have_a_way_into_the_image(self):
        dice = random.Random(18)
        papers = 0
        while papers < 120:
            machine = samples.random_machine(dice)
            image, piece = samples.random_question(dice, machine)
            answer = tell(machine, image, piece)
            if not answer.told:
                continue
            papers += 1
            found = {disk for disk in samples.disks_of(machine) if samples.is_in_some(disk, answer.paper.sketches)}
            for disk in samples.disks_of(machine):
                covered = samples.is_in(disk, image) or any(new in found for new in samples.steps_of(machine, disk))
                if covered and not samples.is_in_some(disk, piece):
                    self.assertIn(disk, found)
            self.assertEqual(found, samples.disks_with_a_way(machine, image, piece))


class Calls(unittest.TestCase):
    """Points 2 to 4."""

    def test_nothing_that_was_passed_is_changed(self):
        machine = samples.swapping()
        piece = [(1, 1), (2, 2)]
        kept = copy.deepcopy((piece, machine.cells, machine.deeds, machine.first))
        tell(machine, (2, 3), piece)
        tell(machine, (1, 1), piece)
        self.assertEqual((piece, machine.cells, machine.deeds, machine.first), kept)

    def test_equal_calls_have_equal_results(self):
        dice = random.Random(2)
        for _ in range(100):
            machine = samples.random_machine(dice)
            image, piece = samples.random_question(dice, machine)
            again = Machine(list(machine.cells), list(machine.deeds), machine.first)
            self.assertEqual(tell(machine, image, piece), tell(again, image, list(piece)))

    def test_wrong_images_and_pieces(self):
        machine = samples.swapping()
        for wrong in ((), (3,), (3, 3, 3), (0, 3), (3, 0), (4, 3), (3, 4), (-1, 3)):
            with self.subTest(wrong):
                for image, piece in ((wrong, []), ((3, 3), [wrong]), ((3, 3), [(1, 1), wrong]), (wrong, [wrong])):
                    with self.assertRaises(InvalidSketch):
                        tell(machine, image, piece)


if __name__ == "__main__":
    unittest.main()
