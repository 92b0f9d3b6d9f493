"""Points 31 and 45 to 47, and the heading raisedwreck/roots.py."""

import itertools
import random
import unittest

from raisedwreck.errors import InvalidFile, InvalidForm
from raisedwreck.machinetext import format_machine
from raisedwreck.roots import RootForm, root_machine, root_piece, root_update, root_value
from raisedwreck.sketches import has_piece
from tests import families, samples

# The beginning of a machine, and one pair of deeds for which root 1 is the newer one.
BEGINNING = """cell g0 3
cell g1 3
cell p0 3
cell p1 3
cell c0 2
cell c1 2
cell c2 2
first g0 1
first g1 0
first p0 0
first p1 1
first c0 0
first c1 0
first c2 0
deed u00010
when g0 0
when g1 2
when p0 0
when p1 1
set g1 1
set p1 2
set c2 0
deed t00010
when g0 0
when g1 2
when p0 0
when p1 1
set c2 0
deed u00011
"""
LATER = """deed u12201
when g0 2
when g1 0
when p0 2
when p1 0
set g0 1
set p0 1
set c1 1
deed t12201
when g0 2
when g1 0
when p0 2
when p1 0
set c1 1
"""


def is_right(blocks, alphabet):
    return 3 <= blocks <= 5 and 1 <= alphabet <= 4 and 2 * 3 * blocks * (blocks - 1) * alphabet * 2 <= 400


def all_forms():
    """All forms of the family."""
    return [RootForm(*row) for row in itertools.product(range(3, 6), range(1, 5)) if is_right(*row)]


def plain_cells(form):
    return ([("g0", 3), ("g1", 3), ("p0", form.blocks), ("p1", form.blocks)]
            + [(f"c{block}", form.alphabet) for block in range(form.blocks)])


def plain_deeds(form):
    """The deeds of the machine of a form, word by word as point 47 says."""
    names = [name for name, _ in plain_cells(form)]
    deeds = []
    for newer, generation in itertools.product(range(2), range(3)):
        # The generation of the newer root is one more than that of the other one.
        pairs = [(generation, other) for other in range(3)]
        generations = [pair for pair in pairs if (pair[newer] - pair[1 - newer]) % 3 == 1][0]
        for roots in itertools.permutations(range(form.blocks), 2):
            for value in range(form.alphabet):
                guard = dict(zip(("g0", "g1", "p0", "p1"), [[number] for number in (*generations, *roots)]))
                free = min(set(range(form.blocks)) - set(roots))
                torn = {f"c{free}": value}
                whole = {f"g{1 - newer}": (generations[newer] + 1) % 3, f"p{1 - newer}": free, **torn}
                end = families.digits((newer, generation, *roots, value))
                deeds.append(families.deed_of(names, "u" + end, guard, whole))
                deeds.append(families.deed_of(names, "t" + end, guard, torn))
    return deeds


class Forms(unittest.TestCase):
    """Points 31, 45 and 47: which forms there are."""

    def test_all_numbers(self):
        forms = families.check_forms(self, RootForm, itertools.product(range(-1, 8), range(-1, 7)), is_right)
        self.assertEqual([(form.blocks, form.alphabet) for form in forms],
                         [(3, 1), (3, 2), (3, 3), (3, 4), (4, 1), (4, 2), (5, 1)])
        for row in ((10 ** 9, 1), (3, 10 ** 9)):
            with self.assertRaises(InvalidForm):
                RootForm(*row)

    def test_at_400_deeds(self):
        self.assertEqual(len(root_machine(RootForm(3, 4)).deeds), 288)
        self.assertEqual(len(root_machine(RootForm(5, 1)).deeds), 240)
        for row in ((4, 3), (5, 2)):
            with self.subTest(row), self.assertRaises(InvalidForm):
                RootForm(*row)


class Machines(unittest.TestCase):
    """Points 45 and 47: the machine of a form."""

    def test_the_example(self):
        form = RootForm(3, 2)
        disk = root_update(form, (1, 0, 0, 1, 0, 0, 0), 1)
        self.assertEqual((disk, root_value(form, disk), root_value(form, disk, former=True),
                          len(root_machine(form).deeds)), ((1, 2, 0, 2, 0, 0, 1), 1, 0, 144))

    def test_a_machine_as_text(self):
        text = format_machine(root_machine(RootForm(3, 2)))
        self.assertTrue(text.startswith(BEGINNING))
        self.assertIn(LATER, text)

    def test_the_order_of_the_names(self):
        names = [name for name, _, _ in root_machine(RootForm(3, 1)).deeds]
        self.assertEqual(names[:14], ["u00010", "t00010", "u00020", "t00020", "u00100", "t00100", "u00120", "t00120",
                                      "u00200", "t00200", "u00210", "t00210", "u01010", "t01010"])
        self.assertEqual(names[36:38], ["u10010", "t10010"])
        self.assertEqual(names[-2:], ["u12210", "t12210"])

    def test_all_machines(self):
        for form in all_forms():
            first = (2, 1, 1, 2) + (1,) * form.blocks
            families.check_machine(self, root_machine(form), plain_cells(form), plain_deeds(form), first)


class Values(unittest.TestCase):
    """Points 46 and 47: the functions that work on a disk."""

    def test_updates_go_round(self):
        form = RootForm(3, 4)
        disk = (1, 0, 0, 1, 0, 0, 0)
        for value, expected in ((3, (1, 2, 0, 2, 0, 0, 3)), (2, (0, 2, 1, 2, 0, 2, 3)), (1, (0, 1, 1, 0, 1, 2, 3)),
                                (0, (2, 1, 2, 0, 1, 2, 0)), (3, (2, 0, 2, 1, 1, 3, 0)), (3, (1, 0, 0, 1, 3, 3, 0))):
            former = root_value(form, disk)
            disk = root_update(form, disk, value)
            self.assertEqual(disk, expected)
            self.assertEqual((root_value(form, disk), root_value(form, disk, former=True)), (value, former))

    def test_the_block_with_the_least_number_is_taken(self):
        form = RootForm(5, 1)
        self.assertEqual(root_update(form, (1, 0, 0, 1, 0, 0, 0, 0, 0), 0), (1, 2, 0, 2, 0, 0, 0, 0, 0))
        self.assertEqual(root_update(form, (1, 0, 3, 4, 0, 0, 0, 0, 0), 0), (1, 2, 3, 0, 0, 0, 0, 0, 0))
        self.assertEqual(root_update(RootForm(4, 2), (0, 1, 0, 2, 0, 0, 0, 0), 1), (2, 1, 1, 2, 0, 1, 0, 0))

    def test_torn_updates(self):
        form = RootForm(3, 3)
        disk = root_update(form, (1, 0, 0, 1, 2, 1, 0), 2, torn=True)
        self.assertEqual(disk, (1, 0, 0, 1, 2, 1, 2))
        self.assertEqual((root_value(form, disk), root_value(form, disk, former=True)), (2, 1))
        self.assertEqual(root_update(form, disk, 1, torn=False), (1, 2, 0, 2, 2, 1, 1))

    def test_values_of_all_generations(self):
        form = RootForm(3, 4)
        for generations, newer in (((1, 0), 0), ((2, 1), 0), ((0, 2), 0), ((0, 1), 1), ((1, 2), 1), ((2, 0), 1)):
            disk = (*generations, 2, 0, 1, 2, 3)
            self.assertEqual(root_value(form, disk), (3, 1)[newer])
            self.assertEqual(root_value(form, disk, former=False), (3, 1)[newer])
            self.assertEqual(root_value(form, disk, former=True), (1, 3)[newer])

    def test_wrong_values(self):
        form = RootForm(3, 2)
        for value in (2, -1, 10 ** 9):
            for torn in (True, False):
                with self.subTest(value=value, torn=torn), self.assertRaises(InvalidFile):
                    root_update(form, (1, 0, 0, 1, 0, 0, 0), value, torn=torn)
                with self.subTest(value=value), self.assertRaises(InvalidFile):
                    root_piece(form, value, former=torn)

    def test_long_runs(self):
        dice = random.Random(47)
        for form in all_forms():
            machine = root_machine(form)
            disk = (1, 0, 0, 1) + (0,) * form.blocks
            values = [0, 0]
            for _ in range(120):
                value, torn = dice.randrange(form.alphabet), dice.random() < 0.4
                new = root_update(form, disk, value, torn=torn)
                begin = "t" if torn else "u"
                after = families.disks_after(
                    machine, disk, lambda name: name[0] == begin and name.endswith(f"{value}"))
                self.assertEqual(after, [new])
                disk = new
                if not torn:
                    values.append(value)
                self.assertEqual(root_value(form, disk), values[-1])
                self.assertEqual(root_value(form, disk, former=True), values[-2])

    def test_every_deed_on_every_disk_is_one_function(self):
        for form in (RootForm(3, 2), RootForm(4, 1)):
            machine = root_machine(form)
            for disk in samples.reached(machine):
                found = [root_update(form, disk, value, torn=torn)
                         for value in range(form.alphabet) for torn in (True, False)]
                self.assertEqual(sorted(found), sorted(samples.steps_of(machine, disk)))

    def test_one_root_is_newer_and_the_roots_point_to_different_blocks(self):
        for form in (RootForm(3, 2), RootForm(4, 1), RootForm(5, 1)):
            for disk in samples.reached(root_machine(form)):
                self.assertIn((disk[0] - disk[1]) % 3, (1, 2))
                self.assertNotEqual(disk[2], disk[3])


class Pieces(unittest.TestCase):
    """The function root_piece."""

    def test_sketch_by_sketch(self):
        form = RootForm(3, 2)
        generations = [(1, 4), (2, 1), (4, 2)], [(1, 2), (2, 4), (4, 1)]
        ends = [(2, 3, 3), (3, 2, 3), (3, 3, 2)]
        newer_0 = [(*pair, 1 << block, 7, *ends[block]) for pair in generations[0] for block in range(3)]
        newer_1 = [(*pair, 7, 1 << block, *ends[block]) for pair in generations[1] for block in range(3)]
        self.assertEqual(root_piece(form, 1), newer_0 + newer_1)
        self.assertEqual(root_piece(form, 1, former=False), newer_0 + newer_1)
        former_0 = [(*pair, 7, 1 << block, *ends[block]) for pair in generations[0] for block in range(3)]
        former_1 = [(*pair, 1 << block, 7, *ends[block]) for pair in generations[1] for block in range(3)]
        self.assertEqual(root_piece(form, 1, former=True), former_0 + former_1)

    def test_the_first_and_the_last_sketch(self):
        self.assertEqual(root_piece(RootForm(4, 2), 0)[0], (1, 4, 1, 15, 1, 3, 3, 3))
        self.assertEqual(root_piece(RootForm(4, 2), 0, former=True)[-1], (4, 1, 8, 15, 3, 3, 3, 1))
        self.assertEqual(len(root_piece(RootForm(5, 1), 0)), 30)

    def test_on_all_disks_that_can_be_reached(self):
        for form in (RootForm(3, 2), RootForm(3, 3), RootForm(4, 2), RootForm(5, 1)):
            reached = samples.reached(root_machine(form))
            for value in range(form.alphabet):
                for former in (True, False):
                    piece = root_piece(form, value, former=former)
                    self.assertEqual(len(piece), 6 * form.blocks)
                    found = {has_piece(piece, disk) == (root_value(form, disk, former=former) == value)
                             for disk in reached}
                    self.assertEqual(found, {True})

    def test_telling(self):
        dice = random.Random(46)
        form = RootForm(3, 2)
        pieces = [root_piece(form, value, former=former) for value in range(2) for former in (True, False)]
        families.check_telling(self, root_machine(form), pieces, dice, 60)


class Calls(unittest.TestCase):
    """Points 2 and 4."""

    def test_lists_are_new_and_forms_stay_as_they_are(self):
        form = RootForm(4, 2)
        first, second = root_piece(form, 1), root_piece(form, 1)
        self.assertIsInstance(first, list)
        first.clear()
        self.assertEqual(root_piece(form, 1), second)
        one, other = root_machine(form), root_machine(RootForm(4, 2))
        self.assertEqual((one.cells, one.deeds, one.first), (other.cells, other.deeds, other.first))
        self.assertEqual(vars(form), vars(RootForm(4, 2)))


if __name__ == "__main__":
    unittest.main()
