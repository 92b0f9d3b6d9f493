"""Points 23 to 26, and the heading raisedwreck/timelines.py."""

import copy
import random
import unittest

from raisedwreck.errors import InvalidSketch
from raisedwreck.machines import Machine
from raisedwreck.timelines import (OrderAnswer, OrderPaper, judge_moment, judge_order, tell_order, told_at_end)
from tests import changes, samples

# For three_steps, in which one cell goes from 0 to 1 and from 1 to 2: in the image it is 2.
IMAGE, EARLY, LATE = (4,), [(2,)], [(4,)]
REACH, COVER, TABLE = [(4,), (2,), (1,)], [0], [[[], [1]], [[2], []], [[], []]]
SKETCHES, LINKS, STEPS = [(4,)], [[0], [], []], [[[], []]]


def random_order(dice, machine):
    """An image and two pieces for a machine; sometimes the pieces have a sketch in common."""
    image, early = samples.random_question(dice, machine)
    _, late = samples.random_question(dice, machine)
    if early and dice.random() < 0.3:
        late = late + [dice.choice(early)]
    return image, early, late


def is_order_broken(machine, image, early, late):
    """True if, by a walk over all disks, some history into the image has the late piece without the early one."""
    before_early = samples.reached(machine, early)
    into_image = samples.disks_with_a_way(machine, image, [])
    return any(samples.is_in_some(disk, late) for disk in before_early & into_image)


def plain_judge_order(machine, image, early, late, paper):
    """True if a paper is as point 24 says, part by part."""
    if not all(samples.plain_fits(machine, sketch) for sketch in paper.reach + paper.sketches):
        return False
    if any(samples.plain_meet(sketch, machine.first) is not None for sketch in paper.sketches):
        return False
    if not samples.plain_places_hold([image], paper.cover, paper.reach) or len(paper.links) != len(paper.reach):
        return False
    for sketch, entry in zip(paper.reach, paper.links):
        parts = []
        for other in late:
            common = samples.plain_meet(sketch, other)
            if common is not None:
                parts += samples.plain_without(common, early)
        if not samples.plain_places_hold(parts, entry, paper.sketches):
            return False
    return (samples.plain_table_holds(machine, [], paper.reach, paper.table)
            and samples.plain_table_holds(machine, early, paper.sketches, paper.steps))


def plain_judge_moment(machine, image, early, late, disk, deeds, moment):
    """True if a history with a moment is as point 25 says."""
    disks = samples.moments_of(machine, disk, deeds)
    if disks is None or not samples.is_in(disks[-1], image) or moment not in range(len(disks)):
        return False
    return (samples.is_in_some(disks[moment], late)
            and not any(samples.is_in_some(earlier, early) for earlier in disks[:moment + 1]))


def changed_papers(machine, paper):
    """All papers that differ from a paper in one place, and some equal ones."""
    parts = [paper.reach, paper.cover, paper.table, paper.sketches, paper.links, paper.steps]
    reach, own = range(-1, len(paper.reach) + 1), range(-1, len(paper.sketches) + 1)
    news = [changes.changed_sketches(machine, paper.reach), changes.changed_numbers(paper.cover, reach),
            changes.changed_tables(paper.table, reach), changes.changed_sketches(machine, paper.sketches),
            changes.changed_rows(paper.links, own), changes.changed_tables(paper.steps, own)]
    for at, found in enumerate(news):
        for new in found:
            yield OrderPaper(*parts[:at], new, *parts[at + 1:])
    yield OrderPaper(*parts[3:4], paper.cover, paper.steps, paper.reach, paper.links, paper.table)


def tuples_all_the_way(table):
    return isinstance(table, tuple) and all(
        isinstance(row, tuple) and all(isinstance(entry, tuple) for entry in row) for row in table)


class OrderPapers(unittest.TestCase):
    """The classes OrderPaper and OrderAnswer."""

    def test_a_paper_copies_its_lists_into_tuples(self):
        parts = copy.deepcopy([REACH, COVER, TABLE, SKETCHES, LINKS, STEPS])
        paper = OrderPaper(*parts)
        parts[0].append((7,))
        parts[1][0] = 2
        parts[2][0][1].append(5)
        parts[3].clear()
        parts[4][0].append(1)
        parts[5][0].append([3])
        self.assertEqual(paper.reach, ((4,), (2,), (1,)))
        self.assertEqual(paper.cover, (0,))
        self.assertEqual(paper.table, (((), (1,)), ((2,), ()), ((), ())))
        self.assertEqual(paper.sketches, ((4,),))
        self.assertEqual(paper.links, ((0,), (), ()))
        self.assertEqual(paper.steps, (((), ()),))

    def test_an_answer_that_is_told(self):
        paper = OrderPaper([], [], [], [], [], [])
        answer = OrderAnswer(True, paper, None, None, None)
        self.assertIs(answer.told, True)
        self.assertEqual(answer.paper.reach, ())
        self.assertEqual((answer.disk, answer.deeds, answer.moment), (None, None, None))

    def test_an_answer_that_is_not_told(self):
        deeds = [0, 1]
        answer = OrderAnswer(False, None, (0,), deeds, 1)
        deeds.append(0)
        self.assertIs(answer.told, False)
        self.assertIsNone(answer.paper)
        self.assertEqual((answer.disk, answer.deeds, answer.moment), ((0,), (0, 1), 1))

    def test_equal_papers_and_answers(self):
        parts = [REACH, COVER, TABLE, SKETCHES, LINKS, STEPS]
        paper = OrderPaper(*parts)
        self.assertEqual(paper, OrderPaper(*copy.deepcopy(parts)))
        for at in range(6):
            self.assertNotEqual(paper, OrderPaper(*parts[:at], [], *parts[at + 1:]))
        answer = [False, paper, (0,), (0, 1), 1]
        self.assertEqual(OrderAnswer(*answer), OrderAnswer(False, paper, (0,), [0, 1], 1))
        for at, other in enumerate([True, None, (1,), (), 0]):
            self.assertNotEqual(OrderAnswer(*answer), OrderAnswer(*answer[:at], other, *answer[at + 1:]))
        self.assertNotEqual(paper, None)
        self.assertNotEqual(OrderAnswer(*answer), tuple(answer))


class TellingOrder(unittest.TestCase):
    """Points 23 to 25."""

    def check(self, machine, image, early, late):
        """Compare the answer with a walk over all disks; return True if the order is told."""
        answer = tell_order(machine, image, early, late)
        self.assertIsInstance(answer, OrderAnswer)
        self.assertIs(answer.told, not is_order_broken(machine, image, early, late))
        if answer.told:
            self.assertEqual((answer.disk, answer.deeds, answer.moment), (None, None, None))
            self.check_paper(machine, image, early, late, answer.paper)
        else:
            self.assertIsNone(answer.paper)
            self.assertIsInstance(answer.deeds, tuple)
            found = (machine, image, early, late, answer.disk, answer.deeds, answer.moment)
            self.assertTrue(plain_judge_moment(*found))
            self.assertIs(judge_moment(*found), True)
        return answer.told

    def check_paper(self, machine, image, early, late, paper):
        self.assertIsInstance(paper, OrderPaper)
        for numbers in (paper.reach, paper.cover, paper.sketches, paper.links):
            self.assertIsInstance(numbers, tuple)
        self.assertTrue(all(isinstance(entry, tuple) for entry in paper.links))
        self.assertTrue(tuples_all_the_way(paper.table) and tuples_all_the_way(paper.steps))
        self.assertTrue(plain_judge_order(machine, image, early, late, paper))
        self.assertIs(judge_order(machine, image, early, late, paper), True)

    def test_one_step_after_the_other(self):
        machine = samples.three_steps()
        self.assertTrue(self.check(machine, (4,), [(2,)], [(4,)]))
        self.assertFalse(self.check(machine, (4,), [(4,)], [(2,)]))
        answer = tell_order(machine, (4,), [(4,)], [(2,)])
        self.assertEqual((answer.disk, answer.deeds, answer.moment), ((0,), (0, 1), 1))

    def test_all_orders_of_three_steps(self):
        machine = samples.three_steps()
        for image in range(1, 8):
            for early in range(1, 8):
                for late in range(1, 8):
                    self.check(machine, (image,), [(early,)], [(late,)])

    def test_many_machines(self):
        dice = random.Random(23)
        told = 0
        for _ in range(500):
            machine = samples.random_machine(dice)
            told += self.check(machine, *random_order(dice, machine))
        self.assertTrue(100 < told < 450)

    def test_larger_machines(self):
        dice = random.Random(24)
        told = 0
        for _ in range(40):
            machine = samples.random_machine(dice, 5, 4, 10)
            told += self.check(machine, *random_order(dice, machine))
        self.assertTrue(2 < told < 39)

    def test_equal_pieces_are_always_in_order(self):
        dice = random.Random(25)
        for _ in range(60):
            machine = samples.random_machine(dice)
            image, piece = samples.random_question(dice, machine)
            self.assertTrue(self.check(machine, image, piece, list(piece)))

    def test_the_empty_piece_is_never_there(self):
        dice = random.Random(26)
        for _ in range(60):
            machine = samples.random_machine(dice)
            image, piece = samples.random_question(dice, machine)
            self.assertTrue(self.check(machine, image, piece, []))
            self.check(machine, image, [], piece)
        self.assertFalse(self.check(samples.three_steps(), (4,), [], [(1,)]))
        self.assertTrue(self.check(samples.three_steps(), (1,), [], [(2,)]))

    def test_the_piece_of_all_disks_is_always_there(self):
        dice = random.Random(27)
        for _ in range(60):
            machine = samples.random_machine(dice)
            image, piece = samples.random_question(dice, machine)
            self.assertTrue(self.check(machine, image, [machine.full], piece))
            self.check(machine, image, piece, [machine.full])
        self.assertFalse(self.check(samples.three_steps(), (7,), [(2,)], [(7,)]))
        self.assertTrue(self.check(samples.three_steps(), (4,), [(1,)], [(7,)]))

    def test_contradictory_images(self):
        for image in ((1, 1), (2, 2)):
            for early in ([], [(3, 3)], [(1, 2)]):
                for late in ([], [(3, 3)], [(1, 2)], [(1, 1)]):
                    self.assertTrue(self.check(samples.swapping(), image, early, late))

    def test_the_late_piece_may_be_gone_at_the_end(self):
        # The first two deeds can be done in any order; the third one hides what was there.
        deeds = [("a", (), ((0, ("set", 1)),)), ("b", (), ((1, ("set", 1)),)),
                 ("hide", ((0, 2), (1, 2)), ((0, ("set", 0)), (1, ("set", 0))))]
        machine = Machine([("x", 2), ("y", 2)], deeds, (1, 1))
        self.assertFalse(self.check(machine, (1, 1), [(2, 3)], [(3, 2)]))
        self.assertTrue(self.check(machine, (1, 1), [(2, 3), (1, 1)], [(3, 2)]))
        self.assertTrue(self.check(machine, (1, 1), [(2, 3), (3, 2)], [(2, 2)]))

    def test_a_history_may_go_on_after_the_moment(self):
        machine = samples.counter(4)
        answer = tell_order(machine, (2, 2, 2, 2), [(1, 1, 1, 2)], [(1, 1, 2, 1)])
        self.assertEqual((answer.told, answer.disk, len(answer.deeds), answer.moment), (False, (0,) * 4, 15, 4))
        self.assertTrue(self.check(machine, (2, 2, 2, 2), [(1, 1, 2, 1)], [(1, 1, 1, 2)]))


class JudgingOrders(unittest.TestCase):
    """Point 24: judge_order."""

    def judged(self, expected, image=IMAGE, early=EARLY, late=LATE, **parts):
        found = {"reach": REACH, "cover": COVER, "table": TABLE, "sketches": SKETCHES, "links": LINKS, "steps": STEPS}
        found.update(parts)
        with self.subTest(image=image, early=early, late=late, **parts):
            paper = OrderPaper(**found)
            self.assertIs(judge_order(samples.three_steps(), image, early, late, paper), expected)
            self.assertIs(plain_judge_order(samples.three_steps(), image, early, late, paper), expected)

    def test_a_paper_that_is_right(self):
        self.judged(True)

    def test_a_paper_may_have_more_than_it_needs(self):
        self.judged(True, reach=[(7,)], table=[[[0], [0]]], links=[[0]])
        self.judged(True, early=[(1,)], sketches=[(6,)], steps=[[[], [0]]])
        self.judged(True, sketches=[(4,), (4,)], steps=[[[], []], [[], []]])

    def test_a_first_list_that_is_changed(self):
        for reach in ([], [(4,), (2,)], [(4,), (1,), (2,)], [(2,), (4,), (1,)], [(4,), (2,), (1,), (1,)],
                      [(4,), (2,), (0,)], [(4,), (2,), (-1,)], [(4,), (2,), (8,)], [(4,), (2,), (1, 1)],
                      [(4,), (2,), ()], [(2,), (2,), (1,)]):
            self.judged(False, reach=reach)
        self.judged(True, reach=[(4,), (3,), (1,)])

    def test_a_cover_that_is_changed(self):
        for cover in ([], [1], [-1], [3], [0, 0], [-3]):
            self.judged(False, cover=cover)

    def test_a_table_that_is_changed(self):
        for table in ([], TABLE[:2], TABLE + [[[], []]], [[[], []], [[2], []], [[], []]],
                      [[[], [1]], [[1], []], [[], []]], [[[], [1]], [[2], []], [[0], []]],
                      [[[], [1]], [[2], []], [[]]], [[[], [1]], [[-1], []], [[], []]],
                      [[[], [1]], [[3], []], [[], []]], [[[1], []], [[2], []], [[], []]]):
            self.judged(False, table=table)

    def test_a_second_list_that_is_changed(self):
        for sketches in ([], [(2,)], [(5,)], [(7,)], [(0,)], [(8,)], [(12,)], [(-4,)], [()], [(4, 4)], [(4,), (4,)]):
            self.judged(False, sketches=sketches)

    def test_links_that_are_changed(self):
        for links in ([], [[], [], []], [[0], [0], []], [[0], [], [0]], [[0], []], [[0], [], [], []], [[1], [], []],
                      [[-1], [], []], [[0, 0], [], []], [[], [0], []]):
            self.judged(False, links=links)

    def test_steps_that_are_changed(self):
        for steps in ([], [[]], [[[]]], [[[], [], []]], [[[], []], [[], []]], [[[0], []]], [[[], [0]]]):
            self.judged(False, steps=steps)

    def test_a_second_list_that_is_not_closed(self):
        self.judged(False, early=[(1,)], late=[(4,)])
        self.judged(True, early=[(1,)], late=[(4,)], sketches=[(4,), (2,)], steps=[[[], [1]], [[], []]])
        for steps in ([[[], []], [[], []]], [[[], [0]], [[], []]], [[[], [2]], [[], []]], [[[], [1]], [[1], []]]):
            self.judged(False, early=[(1,)], late=[(4,)], sketches=[(4,), (2,)], steps=steps)

    def test_a_second_list_with_a_first_disk(self):
        # Without the early piece, the order is not told: the second list would need the first disk.
        self.judged(False, early=[], sketches=[(4,), (2,), (1,)], steps=TABLE)
        self.judged(False, sketches=[(4,), (1,)], steps=[[[], []], [[], []]])

    def test_the_paper_of_another_question(self):
        for image in ((1,), (2,), (3,), (5,), (6,), (7,)):
            self.judged(False, image=image)
        for early in ([], [(1,)], [(4,)], [(1,), (4,)]):
            self.judged(False, early=early)
        for late in ([], [(1,)], [(2,)], [(4,), (4,)], [(1,), (4,)], [(5,)]):
            self.judged(False, late=late)
        self.judged(True, early=[(2,), (1,)])
        self.judged(True, late=[(6,)])
        self.judged(True, late=[(2,), (4,)])

    def test_the_entry_of_a_link_has_the_order_of_the_late_piece(self):
        machine = Machine([("a", 2), ("b", 2)], [], (1, 1))
        late = [(2, 2), (3, 2), (3, 1)]
        # What is left of the image without the early piece are (1, 2) and (2, 1), but sketch by sketch of the late one.
        early = [(1, 1), (2, 2)]
        paper = [[(3, 3)], [0], [[]], [(1, 2), (2, 1)], [[0, 1]], [[], []]]
        for links, expected in (([[0, 1]], True), ([[1, 0]], False), ([[0]], False), ([[0, 1, 1]], False)):
            paper[4] = links
            self.assertIs(judge_order(machine, (3, 3), early, late, OrderPaper(*paper)), expected)
        paper[4] = [[1, 0]]
        self.assertIs(judge_order(machine, (3, 3), early, late[::-1], OrderPaper(*paper)), True)

    def test_papers_of_tell_order_are_right_and_others_are_judged_part_by_part(self):
        dice = random.Random(28)
        right = wrong = papers = 0
        while papers < 25:
            machine = samples.random_machine(dice, 3, 3, 4)
            image, early, late = random_order(dice, machine)
            answer = tell_order(machine, image, early, late)
            if not answer.told or not answer.paper.sketches or len(answer.paper.reach) > 4:
                continue
            papers += 1
            for paper in changed_papers(machine, answer.paper):
                expected = plain_judge_order(machine, image, early, late, paper)
                right, wrong = right + expected, wrong + (not expected)
                self.assertIs(judge_order(machine, image, early, late, paper), expected)
        self.assertTrue(right > 50 and wrong > 500)

    def test_no_paper_is_right_if_the_order_is_not_told(self):
        dice = random.Random(29)
        tried = 0
        while tried < 30:
            machine = samples.random_machine(dice, 3, 3, 4)
            image, early, late = random_order(dice, machine)
            _, other, another = random_order(dice, machine)
            answer = tell_order(machine, image, other, another)
            if not is_order_broken(machine, image, early, late) or not answer.told:
                continue
            tried += 1
            for paper in (answer.paper, OrderPaper([], [], [], [], [], []), *changed_papers(machine, answer.paper)):
                self.assertIs(judge_order(machine, image, early, late, paper), False)


class JudgingMoments(unittest.TestCase):
    """Point 25: judge_moment."""

    def judged(self, deeds, moment, expected, disk=(0,), image=(4,), early=((4,),), late=((2,),)):
        for form in (list, tuple):
            with self.subTest(disk=disk, deeds=deeds, moment=moment, image=image, early=early, late=late):
                found = judge_moment(samples.three_steps(), image, list(early), list(late), disk, form(deeds), moment)
                self.assertIs(found, expected)

    def test_a_history_that_is_right(self):
        self.judged([0, 1], 1, True)

    def test_another_moment(self):
        for moment in (-3, -2, -1, 0, 2, 3, 7):
            self.judged([0, 1], moment, False)

    def test_other_deeds(self):
        for deeds in ([], [0], [1], [1, 0], [0, 0], [0, 1, 1], [0, 1, 2], [0, -1], [2, 1], [0, 1, 400]):
            self.judged(deeds, 1, False)

    def test_other_disks(self):
        for disk in ((1,), (2,), (3,), (-1,), (), (0, 0)):
            self.judged([0, 1], 1, False, disk)
            self.judged([], 0, False, disk, (7,), [], [(7,)])

    def test_other_images(self):
        for image in ((1,), (2,), (3,)):
            self.judged([0, 1], 1, False, image=image)
        self.judged([0, 1], 1, True, image=(5,))

    def test_the_early_piece_must_not_be_there(self):
        self.judged([0, 1], 1, False, early=[(1,)])
        self.judged([0, 1], 1, False, early=[(2,)])
        self.judged([0, 1], 1, False, early=[(4,), (2,)])
        self.judged([0, 1], 1, True, early=[])
        self.judged([0, 1], 2, False, late=[(4,)])
        self.judged([0, 1], 2, True, early=[], late=[(4,)])

    def test_the_late_piece_must_be_there(self):
        self.judged([0, 1], 1, False, late=[])
        self.judged([0, 1], 1, False, late=[(5,)])
        self.judged([0, 1], 1, True, late=[(1,), (2,)])
        self.judged([0, 1], 0, True, late=[(1,)])

    def test_a_history_without_deeds(self):
        self.judged([], 0, True, image=(1,), late=[(1,)])
        self.judged([], 1, False, image=(1,), late=[(1,)])
        self.judged([], -1, False, image=(1,), late=[(1,)])

    def test_histories_of_tell_order_that_are_changed(self):
        dice = random.Random(30)
        right = wrong = tried = 0
        while tried < 60:
            machine = samples.random_machine(dice, 3, 3, 5)
            image, early, late = random_order(dice, machine)
            answer = tell_order(machine, image, early, late)
            if answer.told:
                continue
            tried += 1
            numbers = range(-1, len(machine.deeds) + 1)
            others = [(answer.disk, answer.deeds, moment) for moment in range(-2, len(answer.deeds) + 3)]
            others += [(answer.disk, deeds, answer.moment) for deeds in changes.changed_numbers(answer.deeds, numbers)]
            disks = changes.changed_numbers(answer.disk, range(-1, 4))
            others += [(disk, answer.deeds, answer.moment) for disk in disks]
            for disk, deeds, moment in others:
                expected = plain_judge_moment(machine, image, early, late, disk, deeds, moment)
                right, wrong = right + expected, wrong + (not expected)
                self.assertIs(judge_moment(machine, image, early, late, disk, deeds, moment), expected)
        self.assertTrue(right > 60 and wrong > 300)


class AtTheEnd(unittest.TestCase):
    """Point 26: told_at_end."""

    def plain(self, machine, image, piece):
        """True if all disks of the image that can be reached have the piece."""
        return all(samples.is_in_some(disk, piece) for disk in samples.reached(machine) if samples.is_in(disk, image))

    def test_three_steps(self):
        machine = samples.three_steps()
        for image in range(1, 8):
            for first in range(1, 8):
                self.assertIs(told_at_end(machine, (image,), [(first,)]), image & ~first == 0)
                self.assertIs(told_at_end(machine, (image,), [(first,), (4,)]), image & ~(first | 4) == 0)

    def test_a_piece_that_was_there_before_is_not_told_at_the_end(self):
        self.assertIs(told_at_end(samples.three_steps(), (4,), [(2,)]), False)

    def test_disks_of_the_image_that_cannot_be_reached_do_not_matter(self):
        machine = samples.swapping()
        self.assertIs(told_at_end(machine, (3, 1), [(2, 3)]), True)
        self.assertIs(told_at_end(machine, (3, 3), [(2, 3)]), False)

    def test_the_empty_piece_and_contradictory_images(self):
        machine = samples.swapping()
        self.assertIs(told_at_end(machine, (1, 1), []), True)
        self.assertIs(told_at_end(machine, (1, 2), []), False)
        self.assertIs(told_at_end(machine, (3, 3), [(3, 3)]), True)

    def test_many_machines(self):
        dice = random.Random(31)
        told = 0
        for _ in range(500):
            machine = samples.random_machine(dice)
            image, piece = samples.random_question(dice, machine)
            expected = self.plain(machine, image, piece)
            self.assertIs(told_at_end(machine, image, piece), expected)
            told += expected
        self.assertTrue(80 < told < 420)


class Calls(unittest.TestCase):
    """Points 2 to 4."""

    def test_wrong_images_and_pieces(self):
        machine = samples.swapping()
        paper = OrderPaper([], [], [], [], [], [])
        for wrong in ((), (3,), (3, 3, 3), (0, 3), (3, 0), (4, 3), (3, 4), (-1, 3)):
            for image, early, late in ((wrong, [], []), ((3, 3), [wrong], []), ((3, 3), [], [wrong]),
                                       ((3, 3), [(1, 1), wrong], []), ((3, 3), [], [(1, 1), wrong])):
                with self.subTest(image=image, early=early, late=late):
                    with self.assertRaises(InvalidSketch):
                        tell_order(machine, image, early, late)
                    with self.assertRaises(InvalidSketch):
                        judge_order(machine, image, early, late, paper)
                    with self.assertRaises(InvalidSketch):
                        judge_moment(machine, image, early, late, (9,), [9], -1)
                    with self.assertRaises(InvalidSketch):
                        told_at_end(machine, image, early + late)

    def test_nothing_that_was_passed_is_changed(self):
        machine = samples.three_steps()
        early, late, deeds = [(2,)], [(4,)], [0, 1]
        paper = OrderPaper(REACH, COVER, TABLE, SKETCHES, LINKS, STEPS)
        kept = copy.deepcopy((early, late, deeds, vars(paper), machine.cells, machine.deeds, machine.first))
        for image in ((4,), (7,)):
            for pair in ((early, late), (late, early)):
                tell_order(machine, image, *pair)
                judge_order(machine, image, *pair, paper)
                judge_moment(machine, image, *pair, (0,), deeds, 1)
                told_at_end(machine, image, pair[0])
        self.assertEqual((early, late, deeds, vars(paper), machine.cells, machine.deeds, machine.first), kept)

    def test_equal_calls_have_equal_results(self):
        dice = random.Random(32)
        for _ in range(100):
            machine = samples.random_machine(dice)
            image, early, late = random_order(dice, machine)
            again = Machine(list(machine.cells), list(machine.deeds), machine.first)
            self.assertEqual(tell_order(machine, image, early, late), tell_order(again, image, list(early), list(late)))


if __name__ == "__main__":
    unittest.main()
