"""Points 20 to 22, and the heading raisedwreck/judging.py."""

import copy
import random
import unittest

from raisedwreck.errors import InvalidSketch
from raisedwreck.judging import judge_history, judge_paper
from raisedwreck.machines import Machine
from raisedwreck.telling import Paper, tell
from tests import changes, samples


def two_ways():
    """A machine of two cells in which disks are reached by setting and by copying."""
    deeds = [("up", ((0, 1),), ((0, ("set", 1)),)),
             ("same", (), ((1, ("copy", 0)),)),
             ("on", ((0, 2), (1, 2)), ((0, ("set", 2)),))]
    return Machine([("a", 3), ("b", 3)], deeds, (1, 1))


# For two_ways, its image and its piece: a is 2, and b is not 2, without that both were 1.
IMAGE = (4, 3)
PIECE = [(2, 2)]
SKETCHES = [(4, 3)]


def changed_papers(machine, paper):
    """All papers that differ from a paper in one place, and some equal ones."""
    sketches, cover, table = paper.sketches, paper.cover, paper.table
    numbers = range(-1, len(sketches) + 1)
    for new in changes.changed_numbers(cover, numbers):
        yield Paper(sketches, new, table)
    for new in changes.changed_sketches(machine, sketches):
        yield Paper(new, cover, table)
    for new in changes.changed_tables(table, numbers):
        yield Paper(sketches, cover, new)


class JudgingPapers(unittest.TestCase):
    """Points 20 and 21."""

    def judged(self, sketches, cover, table, expected, image=IMAGE, piece=PIECE):
        with self.subTest(sketches=sketches, cover=cover, table=table, image=image, piece=piece):
            self.assertIs(judge_paper(two_ways(), image, piece, Paper(sketches, cover, table)), expected)

    def test_a_paper_that_is_right(self):
        # Before "on" both are 1, so they have the piece; before "same" the cell a would be 2 and below 2.
        self.judged(SKETCHES, [0], [[[], [], []]], True)

    def test_a_paper_may_have_more_than_it_needs(self):
        self.judged([(4, 3), (4, 7)], [1], [[[], [], []], [[], [1], []]], True)

    def test_sketches_that_are_changed(self):
        table = [[[], [], []]]
        for sketches in ([], [(4, 1)], [(4, 2)], [(2, 3)], [(1, 3)], [(5, 3)], [(4,)], [(4, 3, 1)], [()], [(4, 0)],
                         [(0, 3)], [(8, 3)], [(12, 3)], [(4, -1)], [(4, 11)], [(-4, 3)], [(4, 3), (4, 3)]):
            self.judged(sketches, [0], table, False)

    def test_covers_that_are_changed(self):
        for cover in ([], [1], [-1], [0, 0], [7]):
            self.judged(SKETCHES, cover, [[[], [], []]], False)

    def test_tables_that_are_changed(self):
        for table in ([], [[]], [[[], []]], [[[], [], [], []]], [[[0], [], []]], [[[], [0], []]], [[[], [], [0]]],
                      [[[], [], []], [[], [], []]]):
            self.judged(SKETCHES, [0], table, False)

    def test_entries_for_a_larger_sketch(self):
        self.judged([(4, 7)], [0], [[[], [0], []]], True)
        for entry in ([], [1], [-1], [0, 0], [2]):
            self.judged([(4, 7)], [0], [[[], entry, []]], False)

    def test_the_paper_of_another_question(self):
        table = [[[], [], []]]
        self.judged(SKETCHES, [0], table, True, (4, 1))
        self.judged(SKETCHES, [0], table, False, (4, 7))
        self.judged(SKETCHES, [0], table, False, (6, 3))
        self.judged(SKETCHES, [0], table, False, IMAGE, [])
        self.judged(SKETCHES, [0], table, False, IMAGE, [(2, 1)])
        self.judged(SKETCHES, [0], table, False, IMAGE, [(2, 2), (4, 1), (4, 2)])
        self.judged(SKETCHES, [], table, True, IMAGE, [(2, 2), (4, 3)])

    def test_no_sketch_has_a_first_disk(self):
        machine = Machine([("a", 2)], [], (1,))
        self.assertIs(judge_paper(machine, (2,), [], Paper([(2,)], [0], [[]])), True)
        self.assertIs(judge_paper(machine, (2,), [], Paper([(3,)], [0], [[]])), False)
        self.assertIs(judge_paper(machine, (3,), [], Paper([(3,)], [0], [[]])), False)
        self.assertIs(judge_paper(machine, (2,), [], Paper([(2,), (1,)], [0], [[], []])), False)

    def test_an_empty_paper(self):
        self.judged([], [], [], True, IMAGE, [(4, 7)])
        self.judged([], [], [], False)
        self.judged([], [], [[]], False, IMAGE, [(4, 7)])

    def test_papers_of_tell_are_right_and_others_are_judged_part_by_part(self):
        dice = random.Random(20)
        right = wrong = papers = 0
        while papers < 25:
            machine = samples.random_machine(dice, 3, 3, 4)
            image, piece = samples.random_question(dice, machine)
            answer = tell(machine, image, piece)
            if not answer.told or not 1 <= len(answer.paper.sketches) <= 4:
                continue
            papers += 1
            self.assertIs(judge_paper(machine, image, piece, answer.paper), True)
            for paper in changed_papers(machine, answer.paper):
                expected = samples.plain_judge(machine, image, piece, paper)
                right, wrong = right + expected, wrong + (not expected)
                self.assertIs(judge_paper(machine, image, piece, paper), expected)
        self.assertTrue(right > 50 and wrong > 500)

    def test_no_paper_is_right_if_the_piece_is_not_told(self):
        dice = random.Random(21)
        tried = 0
        while tried < 40:
            machine = samples.random_machine(dice, 3, 3, 4)
            image, piece = samples.random_question(dice, machine)
            other = samples.random_question(dice, machine)[1]
            answer = tell(machine, image, other)
            if samples.least_deeds(machine, image, piece) is None or not answer.told:
                continue
            tried += 1
            for paper in (answer.paper, Paper([], [], []), *changed_papers(machine, answer.paper)):
                self.assertIs(judge_paper(machine, image, piece, paper), False)

    def test_wrong_images_and_pieces(self):
        paper = Paper(SKETCHES, [0], [[[], [], []]])
        for wrong in ((), (4,), (4, 3, 1), (0, 3), (4, 0), (8, 3), (4, 8), (4, -1)):
            for image, piece in ((wrong, PIECE), (IMAGE, [wrong]), (IMAGE, [(2, 2), wrong])):
                with self.subTest(image=image, piece=piece), self.assertRaises(InvalidSketch):
                    judge_paper(two_ways(), image, piece, paper)

    def test_a_wrong_image_comes_before_a_wrong_paper(self):
        with self.assertRaises(InvalidSketch):
            judge_paper(two_ways(), (8, 3), PIECE, Paper([(0,)], [5], []))

    def test_nothing_is_changed(self):
        piece, paper = list(PIECE), Paper(SKETCHES, [0], [[[], [], []]])
        kept = copy.deepcopy((piece, vars(paper)))
        judge_paper(two_ways(), IMAGE, piece, paper)
        self.assertEqual((piece, vars(paper)), kept)


class JudgingHistories(unittest.TestCase):
    """Point 22."""

    def judged(self, disk, deeds, expected, image=(4, 7), piece=((1, 2),)):
        for form in (list, tuple):
            with self.subTest(disk=disk, deeds=deeds, image=image, piece=piece):
                self.assertIs(judge_history(two_ways(), image, list(piece), disk, form(deeds)), expected)

    def test_a_history_that_is_right(self):
        self.judged((0, 0), [0, 1, 2], True)
        self.judged((0, 0), [1, 0, 1, 1, 2], True)
        self.judged((0, 0), [0, 1, 2, 1], True)

    def test_a_history_without_deeds(self):
        self.judged((0, 0), [], True, (1, 1))
        self.judged((0, 0), [], False)
        self.judged((0, 0), [], False, (1, 1), [(3, 3)])

    def test_deeds_that_cannot_be_done(self):
        for deeds in ([0, 2], [2], [0, 0, 1, 2], [0, 1, 2, 2]):
            self.judged((0, 0), deeds, False)

    def test_deeds_that_do_not_exist(self):
        for deeds in ([3], [0, 1, 2, 3], [-1], [0, 1, -1], [400]):
            self.judged((0, 0), deeds, False, (7, 7))

    def test_disks_that_are_no_first_disk(self):
        for disk in ((0, 1), (1, 0), (0, 3), (-1, 0), (0,), (0, 0, 0), ()):
            self.judged(disk, [0, 1, 2], False)
            self.judged(disk, [], False, (7, 7))

    def test_a_history_with_the_piece(self):
        for piece in ([(1, 1)], [(2, 1)], [(2, 2)], [(4, 2)], [(4, 4), (2, 2)], [(7, 7)]):
            self.judged((0, 0), [0, 1, 2], False, (4, 7), piece)
        self.judged((0, 0), [0, 1, 2], True, (4, 7), [(4, 1), (1, 6), (2, 4)])

    def test_a_history_that_does_not_end_in_the_image(self):
        self.judged((0, 0), [0, 1], False)
        for image in ((3, 7), (4, 5)):
            self.judged((0, 0), [0, 1, 2], False, image)

    def test_the_empty_piece(self):
        self.judged((0, 0), [0, 1, 2], True, (4, 2), [])

    def test_histories_of_tell_are_right(self):
        dice = random.Random(22)
        tried = 0
        while tried < 100:
            machine = samples.random_machine(dice)
            image, piece = samples.random_question(dice, machine)
            answer = tell(machine, image, piece)
            if answer.told:
                continue
            tried += 1
            self.assertIs(judge_history(machine, image, piece, answer.disk, answer.deeds), True)
            for at in range(len(answer.deeds)):
                for deed in range(-1, len(machine.deeds) + 1):
                    deeds = [*answer.deeds[:at], deed, *answer.deeds[at + 1:]]
                    self.assertIs(judge_history(machine, image, piece, answer.disk, deeds),
                                  self.is_history(machine, image, piece, answer.disk, deeds))

    def is_history(self, machine, image, piece, disk, deeds):
        for deed in deeds:
            if disk is None or samples.is_in_some(disk, piece) or deed not in range(len(machine.deeds)):
                return False
            disk = samples.done(machine, disk, deed)
        return disk is not None and samples.is_in(disk, image) and not samples.is_in_some(disk, piece)

    def test_wrong_images_and_pieces(self):
        for wrong in ((), (4,), (4, 3, 1), (0, 3), (4, 0), (8, 3), (4, 8), (4, -1)):
            for image, piece in ((wrong, []), ((4, 7), [wrong]), ((4, 7), [(2, 2), wrong])):
                for disk, deeds in (((0, 0), [0, 1, 2]), ((9,), [9])):
                    with self.subTest(image=image, piece=piece), self.assertRaises(InvalidSketch):
                        judge_history(two_ways(), image, piece, disk, deeds)

    def test_nothing_is_changed(self):
        piece, deeds = [(1, 2)], [0, 1, 2]
        judge_history(two_ways(), (4, 7), piece, (0, 0), deeds)
        self.assertEqual((piece, deeds), ([(1, 2)], [0, 1, 2]))


if __name__ == "__main__":
    unittest.main()
