"""Points 54 to 56, and the heading raisedwreck/doings.py."""

import copy
import itertools
import random
import unittest

from raisedwreck.chains import ChainForm, chain_machine
from raisedwreck.doings import is_fresh, lacking, last_deeds, tell_deeds, tell_within, told_deeds
from raisedwreck.errors import InvalidSketch, NoSuchDeed
from raisedwreck.extents import ExtentForm, extent_machine
from raisedwreck.judging import judge_history, judge_paper
from raisedwreck.machines import Machine
from raisedwreck.stripes import StripeForm, stripe_machine
from raisedwreck.telling import Answer
from tests import samples

WRONG_SKETCHES = ((), (3,), (3, 3, 3), (0, 3), (3, 0), (4, 3), (3, 4), (-1, 3))


def two_ways():
    """One cell: from 0 to 1 by two deeds, from 1 to 2, from 2 to 3 by two deeds or from 1 to 3 by one."""
    steps = [("a", 0, 1), ("b", 0, 1), ("c", 1, 2), ("d", 2, 3), ("e", 2, 3), ("f", 1, 3), ("g", 3, 3)]
    return Machine([("x", 5)], [(name, ((0, 1 << start),), ((0, ("set", end)),)) for name, start, end in steps], (1,))


def plain_least(machine, image, deeds):
    """The least number of deeds of a history into the image without some deeds, by a walk over all disks, or None."""
    others = [deed for deed in range(len(machine.deeds)) if deed not in deeds]
    level = set(samples.disks_in(machine.first))
    seen = set(level)
    for least in itertools.count():
        if not level:
            return None
        if any(samples.is_in(disk, image) for disk in level):
            return least
        level = {samples.done(machine, disk, deed) for disk in level for deed in others} - seen - {None}
        seen |= level
    return None


def plain_last(machine, image):
    """The last deeds of an image, by a walk over all disks."""
    found = samples.reached(machine)
    ends = [[samples.done(machine, disk, deed) for disk in found] for deed in range(len(machine.deeds))]
    return [deed for deed, disks in enumerate(ends) if any(disk and samples.is_in(disk, image) for disk in disks)]


def parts(machine):
    return machine.cells, machine.deeds, machine.first


class Lacking(unittest.TestCase):
    """Point 54: lacking."""

    def names(self, deeds):
        machine = two_ways()
        found = lacking(machine, deeds)
        self.assertIsInstance(found, Machine)
        self.assertEqual((found.cells, found.first), (machine.cells, machine.first))
        self.assertEqual([deed for deed in found.deeds if deed not in machine.deeds], [])
        return "".join(deed[0] for deed in found.deeds)

    def test_the_other_deeds_in_their_order(self):
        self.assertEqual(self.names([]), "abcdefg")
        self.assertEqual(self.names([0]), "bcdefg")
        self.assertEqual(self.names([6]), "abcdef")
        self.assertEqual(self.names([5, 1, 3]), "aceg")
        self.assertEqual(self.names([2, 2, 2, 0, 2]), "bdefg")
        self.assertEqual(self.names(list(range(7))), "")
        self.assertEqual(self.names([6, 5, 4, 3, 2, 1, 0, 0]), "")

    def test_numbers_that_do_not_exist(self):
        for wrong in ([7], [-1], [0, 7], [7, 0], [100], [0, 0, -2], list(range(8))):
            with self.subTest(wrong), self.assertRaises(NoSuchDeed):
                lacking(two_ways(), wrong)
        with self.assertRaises(NoSuchDeed):
            lacking(Machine([("a", 2)], [], (1,)), [0])

    def test_the_machine_and_the_list_stay_as_they_were(self):
        machine, deeds = two_ways(), [3, 1, 1]
        kept = parts(machine)
        self.assertEqual(parts(lacking(machine, deeds)), parts(lacking(machine, (1, 3))))
        self.assertEqual((parts(machine), deeds), (kept, [3, 1, 1]))


class TellingDeeds(unittest.TestCase):
    """Point 54: tell_deeds and told_deeds."""

    def check(self, machine, image, deeds):
        """Compare with a walk over all disks; return True if the deeds are told."""
        answer = tell_deeds(machine, image, deeds)
        least = plain_least(machine, image, deeds)
        self.assertIsInstance(answer, Answer)
        self.assertIs(answer.told, least is None)
        if answer.told:
            self.assertEqual((answer.disk, answer.deeds), (None, None))
            self.assertIs(judge_paper(lacking(machine, deeds), image, [], answer.paper), True)
        else:
            self.assertIsNone(answer.paper)
            self.assertIsInstance(answer.deeds, tuple)
            self.assertEqual(len(answer.deeds), least)
            self.assertFalse(set(answer.deeds) & set(deeds))
            self.assertTrue(samples.is_in(samples.moments_of(machine, answer.disk, answer.deeds)[-1], image))
            self.assertIs(judge_history(machine, image, [], answer.disk, answer.deeds), True)
        return answer.told

    def test_deeds_of_two_ways(self):
        machine = two_ways()
        for deeds, told in (([], False), ([0], False), ([1], False), ([0, 1], True), ([1, 0, 1], True), ([2], False),
                            ([2, 5], True), ([5], False), ([3, 4], False), ([3, 4, 5], True), ([6], False),
                            ([2, 3, 6], False), (list(range(7)), True)):
            self.assertIs(self.check(machine, (8,), deeds), told, deeds)

    def test_the_numbers_of_the_machine_itself(self):
        machine = two_ways()
        answer = tell_deeds(machine, (8,), [0, 5, 3])
        self.assertEqual((answer.disk, answer.deeds), ((0,), (1, 2, 4)))
        self.assertEqual(tell_deeds(machine, (8,), [0]).deeds, (1, 5))

    def test_all_deeds_and_no_deed(self):
        machine = two_ways()
        every = list(range(7))
        self.assertEqual(tell_deeds(machine, (9,), every).deeds, ())
        self.assertTrue(tell_deeds(machine, (2,), every).told)
        self.assertFalse(tell_deeds(machine, (2,), []).told)
        # Nothing leads to the value 4, so there even no deed at all is told.
        for deeds in ([], [0], every):
            self.assertTrue(self.check(machine, (16,), deeds))

    def test_many_machines(self):
        dice = random.Random(54)
        counts = {True: 0, False: 0}
        for _ in range(500):
            machine = samples.random_machine(dice)
            image = samples.random_sketch(dice, machine.full, 0.3)
            many = len(machine.deeds)
            deeds = [dice.randrange(many) for _ in range(dice.randint(0, 4))] if many else []
            counts[self.check(machine, image, deeds)] += 1
        self.assertGreater(min(counts.values()), 100)

    def test_the_order_of_the_errors(self):
        machine = samples.swapping()
        for wrong in WRONG_SKETCHES:
            for deeds in ([], [0], [1], [-1]):
                with self.subTest((wrong, deeds)), self.assertRaises(InvalidSketch):
                    tell_deeds(machine, wrong, deeds)
        for deeds in ([1], [-1], [0, 1], [5, 0]):
            for image in ((3, 3), (1, 1)):
                with self.subTest(deeds), self.assertRaises(NoSuchDeed):
                    tell_deeds(machine, image, deeds)

    def test_nothing_is_modified_and_two_calls_agree(self):
        deeds = [1, 0, 1]
        self.assertEqual(tell_deeds(two_ways(), (8,), deeds), tell_deeds(two_ways(), (8,), tuple(deeds)))
        self.assertEqual(deeds, [1, 0, 1])

    def test_told_deeds_of_two_ways(self):
        machine = two_ways()
        self.assertEqual(told_deeds(machine, (1,)), [])
        self.assertEqual(told_deeds(machine, (2,)), [])
        self.assertEqual(told_deeds(machine, (4,)), [2])
        self.assertEqual(told_deeds(machine, (8,)), [])
        self.assertEqual(told_deeds(machine, (16,)), [0, 1, 2, 3, 4, 5, 6])
        self.assertEqual(told_deeds(lacking(machine, [1, 5]), (4,)), [0, 1])
        self.assertEqual(told_deeds(lacking(machine, [5, 4, 0]), (8,)), [0, 1, 2])

    def test_told_deeds_of_many_machines(self):
        dice = random.Random(540)
        counts = {}
        for _ in range(2000):
            machine = samples.random_machine(dice)
            image = samples.random_sketch(dice, machine.full, 0.3)
            expected = [deed for deed in range(len(machine.deeds)) if plain_least(machine, image, [deed]) is None]
            found = told_deeds(machine, image)
            self.assertIsInstance(found, list)
            self.assertEqual(found, expected)
            if plain_least(machine, image, []) is not None:
                counts[len(found)] = counts.get(len(found), 0) + 1
        self.assertGreater(min(counts[number] for number in range(3)), 10)

    def test_told_deeds_of_a_long_history(self):
        self.assertEqual(told_deeds(samples.counter(6), (2,) * 6), [0, 1, 2, 3, 4, 5])
        self.assertEqual(told_deeds(samples.counter(6), (3, 3, 3, 2, 1, 1)), [0, 1, 2, 3])

    def test_told_deeds_of_wrong_images(self):
        for wrong in WRONG_SKETCHES:
            with self.subTest(wrong), self.assertRaises(InvalidSketch):
                told_deeds(samples.swapping(), wrong)

    def test_told_deeds_is_a_new_list(self):
        machine = two_ways()
        for image in ((4,), (16,)):
            found = told_deeds(machine, image)
            kept = copy.deepcopy(found)
            found.append(9)
            self.assertEqual(told_deeds(machine, image), kept)


class LastDeeds(unittest.TestCase):
    """Point 55: last_deeds and is_fresh."""

    def test_two_ways(self):
        machine = two_ways()
        self.assertEqual(last_deeds(machine, (1,)), [])
        self.assertEqual(last_deeds(machine, (2,)), [0, 1])
        self.assertEqual(last_deeds(machine, (4,)), [2])
        self.assertEqual(last_deeds(machine, (8,)), [3, 4, 5, 6])
        self.assertEqual(last_deeds(machine, (16,)), [])
        self.assertEqual(last_deeds(machine, (31,)), [0, 1, 2, 3, 4, 5, 6])
        self.assertEqual(last_deeds(lacking(machine, [2]), (8,)), [4, 5])
        self.assertEqual(last_deeds(lacking(machine, [0, 1]), (8,)), [])

    def test_a_deed_of_a_disk_that_cannot_be_reached(self):
        # There is a disk before the second deed, but no history leads to it.
        deeds = [("go", ((0, 1),), ((0, ("set", 2)),)), ("on", ((0, 2),), ((0, ("set", 2)),))]
        machine = Machine([("a", 3)], deeds, (1,))
        self.assertEqual(last_deeds(machine, (4,)), [0])

    def test_many_machines(self):
        dice = random.Random(55)
        counts = {}
        for _ in range(700):
            machine = samples.random_machine(dice, most_deeds=9)
            image = samples.random_sketch(dice, machine.full, 0.3)
            expected = plain_last(machine, image)
            found = last_deeds(machine, image)
            self.assertIsInstance(found, list)
            self.assertEqual(found, expected)
            counts[len(found)] = counts.get(len(found), 0) + 1
        self.assertGreater(min(counts[number] for number in range(5)), 10)

    def test_families_of_file_systems(self):
        dice = random.Random(550)
        for machine in (chain_machine(ChainForm(1, 2, 2, 2)), extent_machine(ExtentForm(2, 2, 2, 1)),
                        stripe_machine(StripeForm(3))):
            reached = sorted(samples.reached(machine))
            for _ in range(12):
                disk = dice.choice(reached) if dice.random() < 0.7 else dice.choice(samples.disks_of(machine))
                image = tuple(most if dice.random() < 0.5 else 1 << number for number, most in zip(disk, machine.full))
                self.assertEqual(last_deeds(machine, image), plain_last(machine, image))

    def test_fresh_images(self):
        machine = samples.swapping()
        for image, fresh in (((3, 3), True), ((1, 2), True), ((1, 1), False), ((2, 2), False), ((2, 1), False),
                             ((1, 3), True), ((2, 3), False), ((3, 2), True), ((3, 1), False)):
            self.assertIs(is_fresh(machine, image), fresh)

    def test_fresh_images_of_many_machines(self):
        dice = random.Random(551)
        counts = {True: 0, False: 0}
        for _ in range(300):
            machine = samples.random_machine(dice)
            image = samples.random_sketch(dice, machine.full)
            fresh = is_fresh(machine, image)
            self.assertIs(fresh, any(samples.is_in(disk, image) for disk in samples.disks_in(machine.first)))
            counts[fresh] += 1
        self.assertGreater(min(counts.values()), 30)

    def test_wrong_images(self):
        for function in (last_deeds, is_fresh):
            for wrong in WRONG_SKETCHES:
                with self.subTest(wrong), self.assertRaises(InvalidSketch):
                    function(samples.swapping(), wrong)

    def test_last_deeds_is_a_new_list(self):
        machine = two_ways()
        last_deeds(machine, (8,)).append(9)
        self.assertEqual(last_deeds(machine, (8,)), [3, 4, 5, 6])


class Within(unittest.TestCase):
    """Point 56: tell_within."""

    def check(self, machine, image, piece, limit):
        """Compare with a walk over all disks; return True if the piece is told within the limit."""
        least = samples.least_deeds(machine, image, piece)
        found = tell_within(machine, image, piece, limit)
        if least is None or least > limit:
            self.assertIsNone(found)
            return True
        self.assertIsInstance(found, tuple)
        disk, deeds = found
        self.assertIsInstance(deeds, tuple)
        self.assertEqual(len(deeds), least)
        self.assertIs(judge_history(machine, image, piece, disk, deeds), True)
        return False

    def test_two_ways(self):
        machine = two_ways()
        for limit, deeds in ((0, None), (1, None), (2, (0, 5)), (3, (0, 5)), (100, (0, 5))):
            found = tell_within(machine, (8,), [], limit)
            if deeds is None:
                self.assertIsNone(found)
            else:
                self.assertEqual((found[0], len(found[1])), ((0,), len(deeds)))
            self.check(machine, (8,), [], limit)

    def test_no_deed(self):
        machine = two_ways()
        self.assertEqual(tell_within(machine, (9,), [], 0), ((0,), ()))
        self.assertIsNone(tell_within(machine, (9,), [(1,)], 0))
        self.assertIsNone(tell_within(machine, (8,), [], 0))

    def test_a_piece_that_is_told_within_few_deeds_only(self):
        # The way of 31 deeds is the only one without the piece.
        deeds = [*samples.counter(5).deeds, ("jump", ((4, 1),), tuple((cell, ("set", 1)) for cell in range(6)))]
        machine = Machine([(f"b{place}", 2) for place in range(6)], deeds, (1,) * 6)
        image, piece = (2,) * 5 + (3,), [(3,) * 5 + (2,)]
        self.assertEqual(len(tell_within(machine, image, [], 1)[1]), 1)
        for limit in (0, 1, 2, 29, 30):
            self.assertIsNone(tell_within(machine, image, piece, limit))
        for limit in (31, 32, 1000, 10 ** 9):
            self.assertEqual(len(tell_within(machine, image, piece, limit)[1]), 31)

    def test_many_machines_and_limits(self):
        dice = random.Random(56)
        counts = {True: 0, False: 0}
        for _ in range(500):
            machine = samples.random_machine(dice)
            image, piece = samples.random_question(dice, machine)
            for limit in (0, 1, 2, 3, 4, 100):
                counts[self.check(machine, image, piece, limit)] += 1
        self.assertGreater(min(counts.values()), 500)

    def test_a_small_limit_does_not_look_far(self):
        # To go back to the end from this image would take a time that nobody waits.
        deeds = [(f"d{cell}{other}", ((cell, 1), (other, 2)), ((cell, ("set", 1)), (other, ("set", 0))))
                 for cell in range(18) for other in range(18) if cell < other]
        machine = Machine([(f"c{cell}", 2) for cell in range(18)], deeds, (1,) * 18)
        self.assertIsNone(tell_within(machine, (1, 2) * 9, [], 2))

    def test_wrong_sketches(self):
        machine = samples.swapping()
        for wrong in WRONG_SKETCHES:
            for image, piece in ((wrong, []), ((1, 2), [wrong]), ((1, 1), [(1, 2), wrong])):
                with self.subTest(wrong), self.assertRaises(InvalidSketch):
                    tell_within(machine, image, piece, 0)

    def test_nothing_is_modified_and_two_calls_agree(self):
        piece = [(2,)]
        self.assertEqual(tell_within(two_ways(), (8,), piece, 5), tell_within(two_ways(), (8,), piece, 5))
        self.assertEqual(piece, [(2,)])


if __name__ == "__main__":
    unittest.main()
