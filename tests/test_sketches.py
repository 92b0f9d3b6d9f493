"""Points 6 and 12 to 15, and the heading raisedwreck/sketches.py."""

import itertools
import random
import unittest

from raisedwreck.errors import TooManyDisks
from raisedwreck.sketches import (all_disks, contains, count_disks, has_piece, included, least_disk, meet,
                                  without)
from tests import samples

FULL = (3, 7, 7)
DISKS = list(itertools.product(range(2), range(3), range(3)))


def disks_in(sketch):
    return {disk for disk in DISKS if samples.is_in(disk, sketch)}


def pairs_of_sketches(many):
    dice = random.Random(many)
    for _ in range(many):
        yield samples.random_sketch(dice, FULL), samples.random_sketch(dice, FULL)


class Containing(unittest.TestCase):
    """Point 6."""

    def test_each_value_belongs_to_its_mask(self):
        for sketch, disk, expected in (((3, 5), (0, 2), True), ((3, 5), (1, 0), True), ((3, 5), (1, 1), False),
                                       ((2, 5), (0, 2), False), ((32768,), (15,), True), ((32767,), (15,), False)):
            with self.subTest(sketch=sketch, disk=disk):
                self.assertIs(contains(sketch, disk), expected)

    def test_all_disks_of_all_sketches(self):
        for sketch in itertools.product(range(1, 4), range(1, 8), range(1, 8)):
            for disk in DISKS:
                self.assertIs(contains(sketch, disk), samples.is_in(disk, sketch))


class Meeting(unittest.TestCase):
    """Point 12."""

    def test_the_example(self):
        self.assertEqual((meet((6, 3), (3, 1)), meet((6, 3), (1, 1))), ((2, 1), None))

    def test_the_meet_has_the_disks_that_are_in_both(self):
        for a, b in pairs_of_sketches(400):
            common = meet(a, b)
            both = disks_in(a) & disks_in(b)
            if both:
                self.assertEqual(disks_in(common), both)
                self.assertIsInstance(common, tuple)
            else:
                self.assertIsNone(common)

    def test_no_meet_if_only_one_cell_has_no_value_in_common(self):
        self.assertIsNone(meet((1, 7, 7), (2, 7, 7)))
        self.assertIsNone(meet((3, 7, 3), (3, 7, 4)))

    def test_included(self):
        self.assertIs(included((1, 5), (3, 5)), True)
        self.assertIs(included((3, 5), (3, 5)), True)
        self.assertIs(included((3, 5), (1, 5)), False)
        self.assertIs(included((1, 7), (3, 5)), False)

    def test_included_if_each_disk_is_in_the_other(self):
        for a, b in pairs_of_sketches(401):
            self.assertIs(included(a, b), disks_in(a) <= disks_in(b))
            self.assertIs(included(meet(a, b) or a, a), True)


class Leaving(unittest.TestCase):
    """Points 13 and 14."""

    def test_the_example(self):
        self.assertEqual(without((7, 3), [(3, 1)]), [(4, 3), (3, 2)])

    def test_without_a_meet_the_sketch_alone_is_left(self):
        self.assertEqual(without((1, 7), [(2, 7)]), [(1, 7)])

    def test_cells_before_have_both_sets_and_cells_behind_have_their_own(self):
        self.assertEqual(without((7, 7, 7), [(1, 3, 5)]), [(6, 7, 7), (1, 4, 7), (1, 3, 2)])
        self.assertEqual(without((6, 7, 3), [(3, 2, 7)]), [(4, 7, 3), (2, 5, 3)])

    def test_nothing_is_left_of_an_included_sketch(self):
        self.assertEqual(without((2, 5), [(3, 7)]), [])
        self.assertEqual(without((2, 5), [(2, 5)]), [])

    def test_no_sketches(self):
        self.assertEqual(without((2, 5), []), [(2, 5)])

    def test_each_sketch_is_replaced_in_its_place(self):
        self.assertEqual(without((7, 3), [(3, 1), (4, 1)]), [(4, 2), (3, 2)])
        self.assertEqual(without((7, 3), [(3, 1), (6, 2)]), [(4, 1), (1, 2)])
        self.assertEqual(without((7, 3), [(3, 1), (4, 3), (2, 2)]), [(1, 2)])

    def test_the_order_of_the_piece_matters(self):
        self.assertEqual(without((3, 3), [(1, 1), (2, 2)]), [(2, 1), (1, 2)])
        self.assertEqual(without((3, 3), [(2, 2), (1, 1)]), [(1, 2), (2, 1)])

    def test_disjoint_and_together_what_is_left(self):
        dice = random.Random(13)
        for a, b in pairs_of_sketches(300):
            piece = [b] + [samples.random_sketch(dice, FULL) for _ in range(dice.randint(0, 3))]
            left = without(a, piece)
            self.assertEqual(left, samples.plain_without(a, piece))
            found = [disk for sketch in left for disk in disks_in(sketch)]
            self.assertEqual(len(found), len(set(found)))
            self.assertEqual(set(found), {disk for disk in disks_in(a) if not samples.is_in_some(disk, piece)})

    def test_the_piece_is_unchanged_and_the_list_is_new(self):
        piece = [(3, 1), (4, 2)]
        without((7, 3), piece).append("more")
        self.assertEqual(piece, [(3, 1), (4, 2)])
        self.assertEqual(without((7, 3), [(1, 1)]), [(6, 3), (1, 2)])
        nothing = []
        without((7, 3), nothing).append("more")
        self.assertEqual((without((7, 3), nothing), nothing), ([(7, 3)], []))


class Pieces(unittest.TestCase):
    """Point 15."""

    def test_a_disk_has_the_piece_if_it_is_in_one_of_the_sketches(self):
        piece = [(1, 7, 1), (2, 2, 7)]
        for disk, expected in (((0, 2, 0), True), ((1, 1, 2), True), ((0, 0, 1), False), ((1, 0, 0), False)):
            self.assertIs(has_piece(piece, disk), expected)
        self.assertEqual(piece, [(1, 7, 1), (2, 2, 7)])

    def test_no_disk_has_the_empty_piece(self):
        for disk in DISKS:
            self.assertIs(has_piece([], disk), False)

    def test_all_disks(self):
        dice = random.Random(15)
        for _ in range(100):
            piece = [samples.random_sketch(dice, FULL) for _ in range(dice.randint(0, 3))]
            for disk in DISKS:
                self.assertIs(has_piece(piece, disk), samples.is_in_some(disk, piece))


class Counting(unittest.TestCase):
    """count_disks, least_disk and all_disks."""

    def test_count(self):
        for sketch, many in (((1,), 1), ((3, 7), 6), ((5, 5, 5), 8), ((65535,) * 24, 16 ** 24), ((32768, 1), 1)):
            self.assertEqual(count_disks(sketch), many)

    def test_least(self):
        self.assertEqual(least_disk((1, 6, 32768, 12)), (0, 1, 15, 2))
        for sketch in itertools.product(range(1, 4), range(1, 8), range(1, 8)):
            self.assertEqual(least_disk(sketch), min(disks_in(sketch)))

    def test_all_in_ascending_order(self):
        self.assertEqual(all_disks((3, 5)), [(0, 0), (0, 2), (1, 0), (1, 2)])
        for sketch in itertools.product(range(1, 4), range(1, 8), range(1, 8)):
            self.assertEqual(all_disks(sketch), sorted(disks_in(sketch)))

    def test_4096_disks_and_more(self):
        found = all_disks((65535, 65535, 65535))
        self.assertEqual((len(found), found[0], found[-1]), (4096, (0, 0, 0), (15, 15, 15)))
        self.assertEqual(found, sorted(found))
        self.assertEqual(len(all_disks((511, 31, 127, 8191))), 4095)
        for sketch in ((4095, 127, 127, 127), (65535, 65535, 65535, 3), (3,) * 13, (65535,) * 24):
            with self.subTest(sketch), self.assertRaises(TooManyDisks):
                all_disks(sketch)

    def test_exactly_one_disk_too_many(self):
        # No cell of a machine has so many values, but a mask may be any positive integer here.
        self.assertEqual(len(all_disks((2 ** 4096 - 1, 1))), 4096)
        with self.assertRaises(TooManyDisks):
            all_disks((2 ** 4097 - 1, 1))

    def test_a_new_list_each_time(self):
        all_disks((3,)).append("more")
        self.assertEqual(all_disks((3,)), [(0,), (1,)])


if __name__ == "__main__":
    unittest.main()
