"""Points 57 to 60, and the heading raisedwreck/between.py."""

import copy
import random
import unittest

from raisedwreck.between import (BetweenAnswer, BetweenPaper, deciding_cells, judge_between, judge_passage,
                                 tell_between)
from raisedwreck.chains import ChainForm, chain_machine, chain_piece
from raisedwreck.errors import InvalidSketch
from raisedwreck.logs import LogForm, log_machine, log_piece
from raisedwreck.machines import Machine
from raisedwreck.reports import judgement
from raisedwreck.stripes import StripeForm, stripe_machine
from tests import changes, samples

WRONG_SKETCHES = ((), (3,), (3, 3, 3), (0, 3), (3, 0), (4, 3), (3, 4), (-1, 3))


def four_values():
    """One cell that goes from 0 to 1 and from 1 to 2, and from 3, which is never reached, to 2."""
    deeds = [("up", ((0, 1),), ((0, ("set", 1)),)), ("on", ((0, 2),), ((0, ("set", 2)),)),
             ("off", ((0, 8),), ((0, ("set", 2)),))]
    return Machine([("a", 4)], deeds, (1,))


# For four_values: the piece is told between an image of 0 or 3 and a later one of 2.
EARLIER, LATER, PIECE = (9,), (4,), [(2,)]
SKETCHES, COVER, TABLE = [(4,), (8,)], [0], [[[], [], [1]], [[], [], []]]
LINKS, ROOTS, STEPS = [[], [0]], [(8,)], [[[], [], []]]
PARTS = [SKETCHES, COVER, TABLE, LINKS, ROOTS, STEPS]


def random_question(dice, machine):
    """Two images and a piece for a machine."""
    earlier = samples.random_sketch(dice, machine.full)
    return (earlier, *samples.random_question(dice, machine))


def is_broken(machine, earlier, later, piece):
    """True if, by a walk over all disks, some history into the later image passes the earlier one without the piece."""
    passing = samples.reached(machine) & samples.disks_with_a_way(machine, later, piece)
    return any(samples.is_in(disk, earlier) for disk in passing)


def plain_judge_between(machine, earlier, later, piece, paper):
    """True if a paper is as point 58 says, part by part."""
    if not all(samples.plain_fits(machine, sketch) for sketch in paper.sketches + paper.roots):
        return False
    if any(samples.plain_meet(sketch, machine.first) is not None for sketch in paper.roots):
        return False
    if len(paper.links) != len(paper.sketches):
        return False
    for sketch, entry in zip(paper.sketches, paper.links):
        common = samples.plain_meet(sketch, earlier)
        if not samples.plain_places_hold([] if common is None else [common], entry, paper.roots):
            return False
    return (samples.plain_places_hold(samples.plain_without(later, piece), paper.cover, paper.sketches)
            and samples.plain_table_holds(machine, piece, paper.sketches, paper.table)
            and samples.plain_table_holds(machine, [], paper.roots, paper.steps))


def plain_judge_passage(machine, earlier, later, piece, disk, deeds, moment):
    """True if a history with a moment is as point 59 says."""
    disks = samples.moments_of(machine, disk, deeds)
    if disks is None or not samples.is_in(disks[-1], later) or moment not in range(len(disks)):
        return False
    return (samples.is_in(disks[moment], earlier)
            and not any(samples.is_in_some(passing, piece) for passing in disks[moment:]))


def changed_papers(machine, paper):
    """All papers that differ from a paper in one place, and some equal ones."""
    parts = [paper.sketches, paper.cover, paper.table, paper.links, paper.roots, paper.steps]
    own, roots = range(-1, len(paper.sketches) + 1), range(-1, len(paper.roots) + 1)
    news = [changes.changed_sketches(machine, paper.sketches), changes.changed_numbers(paper.cover, own),
            changes.changed_tables(paper.table, own), changes.changed_rows(paper.links, roots),
            changes.changed_sketches(machine, paper.roots), changes.changed_tables(paper.steps, roots)]
    for at, found in enumerate(news):
        for new in found:
            yield BetweenPaper(*parts[:at], new, *parts[at + 1:])
    for sketches in (paper.sketches[::-1], paper.sketches[:1] + paper.sketches):
        yield BetweenPaper(sketches, *parts[1:])
    for roots in (paper.roots[::-1], paper.roots[:1] + paper.roots):
        yield BetweenPaper(*parts[:4], roots, paper.steps)
    yield BetweenPaper(paper.roots, paper.cover, paper.steps, paper.links, paper.sketches, paper.table)


class BetweenPapers(unittest.TestCase):
    """The classes BetweenPaper and BetweenAnswer."""

    def test_a_paper_copies_its_lists_into_tuples(self):
        parts = copy.deepcopy(PARTS)
        paper = BetweenPaper(*parts)
        parts[0].append((7,))
        parts[1][0] = 2
        parts[2][0][1].append(5)
        parts[3][0].append(1)
        parts[4].clear()
        parts[5][0].append([3])
        self.assertEqual(paper.sketches, ((4,), (8,)))
        self.assertEqual(paper.cover, (0,))
        self.assertEqual(paper.table, (((), (), (1,)), ((), (), ())))
        self.assertEqual(paper.links, ((), (0,)))
        self.assertEqual(paper.roots, ((8,),))
        self.assertEqual(paper.steps, (((), (), ()),))

    def test_the_names_of_the_arguments(self):
        paper = BetweenPaper(steps=STEPS, roots=ROOTS, links=LINKS, table=TABLE, cover=COVER, sketches=SKETCHES)
        self.assertEqual(paper, BetweenPaper(*PARTS))
        answer = BetweenAnswer(moment=1, deeds=(0, 1), disk=(0,), paper=None, told=False)
        self.assertEqual(answer, BetweenAnswer(False, None, (0,), (0, 1), 1))

    def test_an_answer_that_is_told(self):
        answer = BetweenAnswer(True, BetweenPaper([], [], [], [], [], []), None, None, None)
        self.assertIs(answer.told, True)
        self.assertEqual(answer.paper.roots, ())
        self.assertEqual((answer.disk, answer.deeds, answer.moment), (None, None, None))

    def test_an_answer_that_is_not_told(self):
        deeds = [0, 1]
        answer = BetweenAnswer(False, None, (0,), deeds, 1)
        deeds.append(0)
        self.assertIs(answer.told, False)
        self.assertIsNone(answer.paper)
        self.assertEqual((answer.disk, answer.deeds, answer.moment), ((0,), (0, 1), 1))

    def test_equal_papers_and_answers(self):
        paper = BetweenPaper(*PARTS)
        self.assertEqual(paper, BetweenPaper(*copy.deepcopy(PARTS)))
        for at in range(6):
            self.assertNotEqual(paper, BetweenPaper(*PARTS[:at], [], *PARTS[at + 1:]))
        answer = [False, paper, (0,), (0, 1), 1]
        self.assertEqual(BetweenAnswer(*answer), BetweenAnswer(False, paper, (0,), [0, 1], 1))
        for at, other in enumerate([True, None, (1,), (), 0]):
            self.assertNotEqual(BetweenAnswer(*answer), BetweenAnswer(*answer[:at], other, *answer[at + 1:]))
        self.assertNotEqual(paper, None)
        self.assertNotEqual(BetweenAnswer(*answer), tuple(answer))


class TellingBetween(unittest.TestCase):
    """Points 57 to 59: tell_between."""

    def check(self, machine, earlier, later, piece):
        """Compare the answer with a walk over all disks; return True if the piece is told."""
        answer = tell_between(machine, earlier, later, piece)
        self.assertIsInstance(answer, BetweenAnswer)
        self.assertIs(answer.told, not is_broken(machine, earlier, later, piece))
        if answer.told:
            self.assertEqual((answer.disk, answer.deeds, answer.moment), (None, None, None))
            self.check_paper(machine, earlier, later, piece, answer.paper)
        else:
            self.assertIsNone(answer.paper)
            self.assertIsInstance(answer.deeds, tuple)
            found = (machine, earlier, later, piece, answer.disk, answer.deeds, answer.moment)
            self.assertTrue(plain_judge_passage(*found))
            self.assertIs(judge_passage(*found), True)
        return answer.told

    def check_paper(self, machine, earlier, later, piece, paper):
        self.assertIsInstance(paper, BetweenPaper)
        for rows in (paper.sketches, paper.links, paper.roots):
            self.assertIsInstance(rows, tuple)
            self.assertTrue(all(isinstance(row, tuple) for row in rows))
        self.assertIsInstance(paper.cover, tuple)
        for table in (paper.table, paper.steps):
            self.assertTrue(all(isinstance(row, tuple) and all(isinstance(entry, tuple) for entry in row)
                                for row in table))
        self.assertTrue(plain_judge_between(machine, earlier, later, piece, paper))
        self.assertIs(judge_between(machine, earlier, later, piece, paper), True)

    def test_between_two_steps(self):
        machine = four_values()
        self.assertTrue(self.check(machine, (1,), (4,), [(2,)]))
        self.assertTrue(self.check(machine, EARLIER, LATER, PIECE))
        self.assertFalse(self.check(machine, (2,), (4,), [(1,)]))
        answer = tell_between(machine, (2,), (4,), [(1,)])
        self.assertEqual((answer.disk, answer.deeds, answer.moment), ((0,), (0, 1), 1))

    def test_all_questions_of_one_cell(self):
        machine = samples.three_steps()
        for earlier in range(1, 8):
            for later in range(1, 8):
                for piece in range(1, 8):
                    self.check(machine, (earlier,), (later,), [(piece,)])

    def test_the_moment_of_the_earlier_image_counts_and_those_before_it_do_not(self):
        machine = samples.three_steps()
        self.assertTrue(self.check(machine, (2,), (4,), [(2,)]))
        self.assertTrue(self.check(machine, (2,), (4,), [(4,)]))
        self.assertFalse(self.check(machine, (4,), (4,), [(2,)]))
        self.assertFalse(self.check(machine, (2,), (4,), [(1,)]))

    def test_a_piece_may_be_told_between_without_being_told(self):
        # The value 3 may be left out, but not on the way from 1 to 2.
        deeds = [(f"d{start}{end}", ((0, 1 << start),), ((0, ("set", end)),)) for start, end in
                 ((0, 1), (1, 3), (3, 2), (0, 2))]
        machine = Machine([("a", 4)], deeds, (1,))
        self.assertEqual(judgement(machine, (4,), [(8,)]), "possible")
        self.assertTrue(self.check(machine, (2,), (4,), [(8,)]))
        self.assertFalse(self.check(machine, (1,), (4,), [(8,)]))

    def test_each_moment_in_the_earlier_image_counts(self):
        # The cell may come back to the earlier image after the piece was there.
        deeds = [("there", ((0, 1),), ((0, ("set", 1)),)), ("back", ((0, 2),), ((0, ("set", 0)),)),
                 ("end", ((0, 1),), ((0, ("set", 2)),)), ("stop", ((0, 2),), ((0, ("set", 2)),))]
        machine = Machine([("a", 3)], deeds, (2,))
        self.assertFalse(self.check(machine, (1,), (4,), [(2,)]))
        self.assertTrue(self.check(machine, (2,), (4,), [(2,)]))

    def test_equal_images(self):
        dice = random.Random(57)
        machine = samples.three_steps()
        self.assertTrue(self.check(machine, (4,), (4,), [(4,)]))
        self.assertFalse(self.check(machine, (4,), (4,), [(1,)]))
        for _ in range(80):
            machine = samples.random_machine(dice)
            image, piece = samples.random_question(dice, machine)
            self.check(machine, image, image, piece)

    def test_contradictory_images(self):
        machine = four_values()
        for piece in ([], [(2,)], [(15,)]):
            self.assertTrue(self.check(machine, (8,), (4,), piece))
            self.assertTrue(self.check(machine, (15,), (8,), piece))
        for image in ((1, 1), (2, 2)):
            for piece in ([], [(3, 3)], [(1, 2)]):
                self.assertTrue(self.check(samples.swapping(), image, (3, 3), piece))
                self.assertTrue(self.check(samples.swapping(), (3, 3), image, piece))

    def test_an_image_after_which_the_later_one_never_comes(self):
        for piece in ([], [(2,)], [(7,)]):
            self.assertTrue(self.check(samples.three_steps(), (4,), (1,), piece))
            self.assertTrue(self.check(samples.three_steps(), (4,), (3,), piece))

    def test_the_empty_piece_and_the_piece_of_all_disks(self):
        dice = random.Random(58)
        told = 0
        for _ in range(100):
            machine = samples.random_machine(dice)
            earlier, later, _ = random_question(dice, machine)
            told += self.check(machine, earlier, later, [])
            self.assertTrue(self.check(machine, earlier, later, [machine.full]))
        self.assertTrue(10 < told < 90)
        self.assertFalse(self.check(samples.three_steps(), (1,), (4,), []))

    def test_many_machines(self):
        dice = random.Random(59)
        counts = {True: 0, False: 0}
        with_roots = 0
        for _ in range(700):
            machine = samples.random_machine(dice)
            question = random_question(dice, machine)
            counts[self.check(machine, *question)] += 1
            paper = tell_between(machine, *question).paper
            with_roots += bool(paper and paper.roots)
        self.assertGreater(min(counts.values()), 100)
        self.assertGreater(with_roots, 30)

    def test_larger_machines(self):
        dice = random.Random(570)
        told = 0
        for _ in range(60):
            machine = samples.random_machine(dice, 5, 4, 10)
            told += self.check(machine, *random_question(dice, machine))
        self.assertTrue(5 < told < 58)

    def test_a_history_goes_on_after_the_moment(self):
        machine = samples.counter(4)
        answer = tell_between(machine, (1, 1, 2, 1), (2, 2, 2, 2), [(1, 2, 1, 1)])
        self.assertEqual((answer.told, answer.disk, len(answer.deeds), answer.moment), (False, (0,) * 4, 15, 4))
        self.assertTrue(self.check(machine, (1, 1, 2, 1), (2, 2, 2, 2), [(1, 1, 1, 2)]))

    def test_wrong_sketches(self):
        machine = samples.swapping()
        right = (1, 2)
        for wrong in WRONG_SKETCHES:
            for question in ((wrong, right, []), (right, wrong, []), (right, right, [wrong]),
                             (right, right, [right, wrong]), ((1, 1), (1, 1), [wrong]), (wrong, wrong, [wrong])):
                with self.subTest(question):
                    with self.assertRaises(InvalidSketch):
                        tell_between(machine, *question)
                    with self.assertRaises(InvalidSketch):
                        judge_between(machine, *question, BetweenPaper([], [], [], [], [], []))
                    with self.assertRaises(InvalidSketch):
                        judge_passage(machine, *question, (0, 1), [], 0)
                    with self.assertRaises(InvalidSketch):
                        judge_passage(machine, *question, (9, 9), [7], 5)

    def test_nothing_is_modified_and_two_calls_agree(self):
        piece = [(2,)]
        for earlier in (EARLIER, (4,)):
            self.assertEqual(tell_between(four_values(), earlier, LATER, piece),
                             tell_between(four_values(), earlier, LATER, piece))
        self.assertEqual(piece, [(2,)])


class JudgingBetween(unittest.TestCase):
    """Point 58: judge_between."""

    def judged(self, expected, earlier=EARLIER, later=LATER, piece=PIECE, **parts):
        found = dict(zip(("sketches", "cover", "table", "links", "roots", "steps"), PARTS))
        found.update(parts)
        with self.subTest(earlier=earlier, later=later, piece=piece, **parts):
            paper = BetweenPaper(**found)
            self.assertIs(judge_between(four_values(), earlier, later, piece, paper), expected)
            self.assertIs(plain_judge_between(four_values(), earlier, later, piece, paper), expected)

    def test_a_paper_that_is_right(self):
        self.judged(True)

    def test_a_paper_may_have_more_than_it_needs(self):
        self.judged(True, sketches=[(4,), (8,), (8,)], table=[[[], [], [2]], [[], [], []], [[], [], []]],
                    links=[[], [0], [0]])
        self.judged(True, roots=[(8,), (8,)], steps=[[[], [], []], [[], [], []]], links=[[], [1]])

    def test_a_first_list_that_is_changed(self):
        for sketches in ([], [(4,)], [(8,)], [(8,), (4,)], [(4,), (4,)], [(4,), (8,), (8,)], [(4,), (0,)],
                         [(4,), (-1,)], [(4,), (16,)], [(4,), (8, 8)], [(4,), ()], [(5,), (8,)], [(4,), (9,)],
                         [(4,), (10,)]):
            self.judged(False, sketches=sketches)

    def test_a_cover_that_is_changed(self):
        for cover in ([], [1], [-1], [2], [0, 0], [-2]):
            self.judged(False, cover=cover)

    def test_a_table_that_is_changed(self):
        for table in ([], TABLE[:1], TABLE + [[[], [], []]], [[[], [], []], [[], [], []]],
                      [[[], [], [0]], [[], [], []]], [[[], [], [2]], [[], [], []]], [[[], [], [-1]], [[], [], []]],
                      [[[], [], [1, 1]], [[], [], []]], [[[], [1], [1]], [[], [], []]], [[[], [], [1]], [[], []]],
                      [[[], [], [1]], [[], [], [], []]], [[[], [], [1]], [[0], [], []]]):
            self.judged(False, table=table)

    def test_links_that_are_changed(self):
        for links in ([], [[]], [[], []], [[0], []], [[0], [0]], [[], [1]], [[], [-1]], [[], [0, 0]], [[], [0], []]):
            self.judged(False, links=links)

    def test_roots_that_are_changed(self):
        for roots in ([], [(4,)], [(9,)], [(12,)], [(0,)], [(-1,)], [(16,)], [(24,)], [()], [(8, 8)], [(8,), (8,)]):
            self.judged(False, roots=roots)

    def test_steps_that_are_changed(self):
        for steps in ([], [[]], [[[], []]], [[[], [], [], []]], [[[0], [], []]], [[[], [], [0]]],
                      STEPS + [[[], [], []]]):
            self.judged(False, steps=steps)

    def test_roots_that_are_not_closed(self):
        # The value 2 as a root needs the value 1, and this one the first disk.
        wide = {"earlier": (12,), "links": [[0], [1]]}
        self.judged(False, roots=[(4,), (8,)], steps=[[[], [], [1]], [[], [], []]], **wide)
        self.judged(False, roots=[(4,), (8,), (2,)], steps=[[[], [2], [1]], [[], [], []], [[], [], []]], **wide)
        self.judged(False, roots=[(4,), (8,), (2,), (1,)],
                    steps=[[[], [2], [1]], [[], [], []], [[3], [], []], [[], [], []]], **wide)

    def test_roots_are_closed_without_the_empty_piece(self):
        # No history leads from 1 to 2 here, but the piece must not be left out of the roots.
        deeds = [("on", ((0, 2),), ((0, ("set", 2)),))]
        machine = Machine([("a", 3)], deeds, (1,))
        parts = [[(4,)], [0], [[[]]], [[0]]]
        for roots, steps, expected in (([(4,)], [[[]]], False), ([(4,), (2,)], [[[1]], [[]]], True),
                                       ([(6,)], [[[0]]], True)):
            paper = BetweenPaper(*parts, roots, steps)
            self.assertIs(judge_between(machine, (4,), (4,), [(2,)], paper), expected)
            self.assertIs(plain_judge_between(machine, (4,), (4,), [(2,)], paper), expected)

    def test_the_first_list_may_have_a_first_disk(self):
        # A history may begin after the piece, as long as it does not pass the earlier image.
        machine = Machine([("a", 3)], [("go", ((0, 1),), ((0, ("set", 1)),))], (1,))
        paper = BetweenPaper([(2,), (1,)], [0], [[[1]], [[]]], [[], []], [], [])
        self.assertIs(judge_between(machine, (4,), (2,), [], paper), True)
        self.assertIs(plain_judge_between(machine, (4,), (2,), [], paper), True)

    def test_the_paper_of_another_question(self):
        for earlier in ((1,), (4,), (13,), (15,), (5,)):
            self.judged(False, earlier=earlier)
        for later in ((8,), (1,), (5,), (12,), (15,)):
            self.judged(False, later=later)
        for piece in ([], [(1,)], [(4,)], [(8,)], [(12,)]):
            self.judged(False, piece=piece)
        self.judged(True, piece=[(2,), (1,)])
        self.judged(True, earlier=(8,))
        self.judged(True, earlier=(10,))
        self.judged(True, later=(6,))

    def test_papers_of_tell_between_are_right_and_others_are_judged_part_by_part(self):
        dice = random.Random(580)
        right = wrong = papers = 0
        while papers < 25:
            machine = samples.random_machine(dice, 3, 3, 4)
            question = random_question(dice, machine)
            answer = tell_between(machine, *question)
            if not answer.told or not answer.paper.roots or len(answer.paper.sketches) > 4:
                continue
            papers += 1
            for paper in changed_papers(machine, answer.paper):
                expected = plain_judge_between(machine, *question, paper)
                self.assertIs(judge_between(machine, *question, paper), expected)
                right += expected
                wrong += not expected
        self.assertGreater(right, 100)
        self.assertGreater(wrong, 500)


class JudgingPassages(unittest.TestCase):
    """Point 59: judge_passage."""

    def judged(self, expected, earlier=(2,), later=(4,), piece=((1,),), disk=(0,), deeds=(0, 1), moment=1):
        question = (four_values(), earlier, later, list(piece), disk)
        with self.subTest(question[1:] + (deeds, moment)):
            for kind in (list, tuple):
                self.assertIs(judge_passage(*question, kind(deeds), moment), expected)
            self.assertIs(plain_judge_passage(*question, deeds, moment), expected)

    def test_a_history_that_is_right(self):
        self.judged(True)
        self.judged(True, earlier=(4,), moment=2)
        self.judged(True, earlier=(15,), moment=1)
        self.judged(True, earlier=(1,), piece=(), moment=0)
        self.judged(True, later=(1,), earlier=(1,), piece=((6,),), deeds=(), moment=0)

    def test_another_moment(self):
        for moment in (-3, -2, -1, 0, 2, 3, 100):
            self.judged(False, moment=moment)
        for moment in (-3, -2, -1, 3, 4):
            self.judged(False, earlier=(15,), piece=(), moment=moment)
        for moment in (0, 1, 2):
            self.judged(True, earlier=(15,), piece=(), moment=moment)
        self.judged(False, earlier=(15,), moment=0)

    def test_a_piece_that_is_there(self):
        for piece in (((2,),), ((4,),), ((6,),), ((8,), (4,)), ((15,),), ((1,), (2,))):
            self.judged(False, piece=piece)
        for piece in ((), ((1,),), ((8,),), ((9,), (1,))):
            self.judged(True, piece=piece)

    def test_other_deeds_and_wrong_disks(self):
        for deeds in ((), (0,), (1,), (1, 0), (0, 0), (0, 1, 1), (0, 2), (2,), (3,), (0, 3), (0, -1), (0, 1, -3)):
            self.judged(False, deeds=deeds)
        for disk in ((1,), (2,), (3,), (4,), (-1,), (), (0, 0)):
            self.judged(False, disk=disk)

    def test_other_images(self):
        for later in ((1,), (2,), (8,), (11,)):
            self.judged(False, later=later)
        for earlier in ((1,), (4,), (8,), (13,)):
            self.judged(False, earlier=earlier)
        self.judged(True, later=(15,), earlier=(3,))

    def test_drawn_histories(self):
        dice = random.Random(590)
        counts = {True: 0, False: 0}
        for _ in range(3000):
            machine = samples.random_machine(dice)
            earlier, later, piece = random_question(dice, machine)
            disk = dice.choice(samples.disks_in(machine.first))
            deeds, now = [], disk
            for deed in range(dice.randint(0, 3) if machine.deeds else 0):
                number = dice.randrange(len(machine.deeds))
                new = samples.done(machine, now, number)
                if new is not None or dice.random() < 0.1:
                    deeds.append(number)
                    now = new or now
            found = (machine, earlier, later, piece, disk, deeds, dice.randint(-1, len(deeds) + 1))
            expected = plain_judge_passage(*found)
            self.assertIs(judge_passage(*found), expected)
            counts[expected] += 1
        self.assertGreater(min(counts.values()), 100)

    def test_nothing_is_modified(self):
        deeds, piece = [0, 1], [(1,)]
        judge_passage(four_values(), (2,), (4,), piece, (0,), deeds, 1)
        self.assertEqual((deeds, piece), ([0, 1], [(1,)]))


class DecidingCells(unittest.TestCase):
    """Point 60: deciding_cells."""

    def expected(self, machine, image, piece):
        """The cells, from the judgements that a walk over all disks gives for each single value."""
        cells = []
        for cell, mask in enumerate(image):
            words = [samples.plain_judgement(machine, image[:cell] + (1 << value,) + image[cell + 1:], piece)
                     for value in range(16) if mask & (1 << value)]
            if "possible" not in words:
                cells.append(cell)
        return cells

    def test_two_cells(self):
        # Only the second deed has the piece at some moment, and it leaves a mark in the second cell.
        deeds = [("one", ((0, 1),), ((0, ("set", 2)),)), ("two", ((0, 1),), ((0, ("set", 1)), (1, ("set", 1)))),
                 ("go", ((0, 2),), ((0, ("set", 2)),))]
        machine = Machine([("a", 3), ("b", 2), ("c", 2)], deeds, (1, 1, 3))
        self.assertEqual(deciding_cells(machine, (4, 3, 3), [(2, 3, 3)]), [1])
        self.assertEqual(deciding_cells(machine, (4, 3, 1), [(2, 3, 3)]), [1])
        self.assertEqual(deciding_cells(machine, (7, 3, 3), [(2, 3, 3)]), [1])
        self.assertEqual(deciding_cells(machine, (4, 2, 3), [(2, 3, 3)]), [0, 1, 2])
        self.assertEqual(deciding_cells(machine, (4, 3, 3), [(3, 3, 2)]), [2])
        self.assertEqual(deciding_cells(machine, (5, 3, 3), [(4, 3, 3)]), [0])

    def test_a_value_that_leads_to_a_contradiction_is_not_possible(self):
        machine = four_values()
        self.assertEqual(deciding_cells(machine, (10,), [(4,)]), [0])
        self.assertEqual(deciding_cells(machine, (8,), [(4,)]), [0])
        self.assertEqual(deciding_cells(machine, (15,), [(2,)]), [0])

    def test_an_image_that_is_contradictory_told_or_impossible(self):
        machine = samples.swapping()
        self.assertEqual(deciding_cells(machine, (1, 1), [(3, 3)]), [0, 1])
        self.assertEqual(deciding_cells(machine, (2, 1), [(1, 2)]), [0, 1])
        self.assertEqual(deciding_cells(machine, (3, 3), [(1, 1)]), [0, 1])
        self.assertEqual(deciding_cells(machine, (3, 3), []), [0, 1])

    def test_many_machines(self):
        dice = random.Random(60)
        counts = {}
        for _ in range(1500):
            machine = samples.random_machine(dice)
            _, piece = samples.random_question(dice, machine)
            image = samples.random_sketch(dice, machine.full, 0.7)
            found = deciding_cells(machine, image, piece)
            self.assertIsInstance(found, list)
            self.assertEqual(found, self.expected(machine, image, piece))
            if samples.plain_judgement(machine, image, piece) == "possible":
                counts[len(found)] = counts.get(len(found), 0) + 1
        self.assertGreater(min(counts[0], counts[1]), 50)
        self.assertGreater(counts[2], 1)

    def test_families_of_file_systems(self):
        dice = random.Random(600)
        chains, logs = ChainForm(1, 2, 2, 1), LogForm(1, 2, 2)
        questions = [(chain_machine(chains), [chain_piece(chains, 0, (0,)), chain_piece(chains, 0, (1,))]),
                     (log_machine(logs), [log_piece(logs, 0, 0), log_piece(logs, 0, 1)]),
                     (stripe_machine(StripeForm(2)), [[(2, 3, 3, 7)], [(2, 2, 3, 7)]])]
        for machine, pieces in questions:
            reached = sorted(samples.reached(machine))
            for _ in range(8):
                disk = dice.choice(reached)
                image = tuple(most if dice.random() < 0.6 else 1 << value for value, most in zip(disk, machine.full))
                for piece in pieces:
                    self.assertEqual(deciding_cells(machine, image, piece), self.expected(machine, image, piece))

    def test_wrong_sketches(self):
        machine = samples.swapping()
        for wrong in WRONG_SKETCHES:
            for image, piece in ((wrong, []), ((1, 2), [wrong]), ((1, 1), [(1, 2), wrong])):
                with self.subTest(wrong), self.assertRaises(InvalidSketch):
                    deciding_cells(machine, image, piece)

    def test_nothing_is_modified_and_the_list_is_new(self):
        machine, piece = samples.swapping(), [(1, 1)]
        deciding_cells(machine, (3, 3), piece).append(9)
        self.assertEqual(deciding_cells(machine, (3, 3), piece), [0, 1])
        self.assertEqual(piece, [(1, 1)])


if __name__ == "__main__":
    unittest.main()
