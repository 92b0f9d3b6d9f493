"""Points 2 to 9, and the heading raisedwreck/machines.py."""

import copy
import random
import unittest

from raisedwreck.errors import CannotDo, InvalidDisk, InvalidMachine, InvalidSketch, NoSuchDeed
from raisedwreck.machines import Machine, after, can_do, check_disk, check_sketch, moments
from tests import samples

GOOD_NAMES = ["a", "z", "a0", "z9", "abc", "a1b2c3", "abcdefghijkl", "a12345678901"]
BAD_NAMES = ["", "0", "9a", "A", "aB", "a_b", "_a", "a b", " a", "a ", "a-b", "a\n", "\na", "abcdefghijklm",
             "a123456789012", "\u00e9", "a\u00e9", "a\u00b2", "a\u0663", "a.b"]


def names(count):
    return [f"n{number}" for number in range(count)]


def with_cells(cells):
    """A machine with these cells and without deeds; the first sketch is right wherever the cells are."""
    return Machine(cells, [], tuple(1 for _ in cells))


def with_deeds(deeds):
    """A machine with cells of the sizes 2, 3, 3 and 16 and with these deeds."""
    return Machine([("a", 2), ("b", 3), ("c", 3), ("d", 16)], deeds, (1, 1, 1, 1))


class Refusing(unittest.TestCase):
    def refused(self, build, *arguments):
        with self.assertRaises(InvalidMachine):
            build(*arguments)


class Cells(Refusing):
    """Point 5."""

    def test_from_1_to_24_cells(self):
        for count in (1, 2, 23, 24):
            with self.subTest(count):
                self.assertEqual(len(with_cells([(name, 2) for name in names(count)]).cells), count)

    def test_none_and_25_cells_are_refused(self):
        for count in (0, 25, 26, 100):
            with self.subTest(count):
                self.refused(with_cells, [(name, 2) for name in names(count)])

    def test_sizes_from_1_to_16(self):
        for size in range(1, 17):
            with self.subTest(size):
                self.assertEqual(with_cells([("a", size)]).cells, (("a", size),))

    def test_other_sizes_are_refused(self):
        for size in (0, 17, -1, -16, 1000):
            with self.subTest(size):
                self.refused(with_cells, [("a", size)])
                self.refused(with_cells, [("b", 2), ("a", size)])

    def test_names(self):
        for name in GOOD_NAMES:
            with self.subTest(name):
                self.assertEqual(with_cells([(name, 2)]).cells, ((name, 2),))

    def test_other_names_are_refused(self):
        for name in BAD_NAMES:
            with self.subTest(name):
                self.refused(with_cells, [(name, 2)])
                self.refused(with_cells, [("q", 2), (name, 2)])

    def test_equal_names_are_refused(self):
        self.refused(with_cells, [("a", 2), ("a", 2)])
        self.refused(with_cells, [("a", 2), ("b", 2), ("a", 3)])


class FirstSketch(Refusing):
    """Point 6."""

    def test_masks_from_1_to_the_greatest(self):
        for size in (1, 2, 5, 16):
            cells = [("a", 3), ("b", size)]
            for mask in (1, 2 ** size - 1):
                self.assertEqual(Machine(cells, [], (7, mask)).first, (7, mask))

    def test_other_masks_are_refused(self):
        for size in (1, 2, 5, 16):
            for mask in (0, 2 ** size, -1, 2 ** 20):
                with self.subTest(size=size, mask=mask):
                    self.refused(Machine, [("a", 3), ("b", size)], [], (7, mask))
                    self.refused(Machine, [("b", size), ("a", 3)], [], (mask, 7))

    def test_a_sketch_has_one_mask_for_each_cell(self):
        for first in ((), (1,), (1, 1, 1)):
            with self.subTest(first):
                self.refused(Machine, [("a", 2), ("b", 2)], [], first)


class Deeds(Refusing):
    """Point 7."""

    def test_no_deeds(self):
        self.assertEqual(with_deeds([]).deeds, ())

    def test_a_deed_may_have_no_guard_and_no_changes(self):
        self.assertEqual(with_deeds([("go", (), ())]).deeds, (("go", (), ()),))

    def test_at_most_400_deeds(self):
        deeds = [(name, (), ()) for name in names(401)]
        self.assertEqual(with_deeds(deeds[:400]).deeds, tuple(deeds[:400]))
        self.refused(with_deeds, deeds)

    def test_names(self):
        for name in GOOD_NAMES:
            self.assertEqual(with_deeds([(name, (), ())]).deeds[0][0], name)
        for name in BAD_NAMES:
            with self.subTest(name):
                self.refused(with_deeds, [(name, (), ())])
                self.refused(with_deeds, [("go", (), ()), (name, (), ())])

    def test_equal_names_are_refused(self):
        self.refused(with_deeds, [("go", (), ()), ("go", ((0, 1),), ())])
        self.refused(with_deeds, [("go", (), ()), ("on", (), ()), ("go", (), ())])

    def test_a_deed_may_have_the_name_of_a_cell(self):
        self.assertEqual(with_deeds([("a", (), ())]).deed("a"), 0)

    def test_guards(self):
        for guard in (((0, 1),), ((0, 3), (1, 7), (3, 65535)), ((1, 1), (2, 4)), ((3, 32768),)):
            with self.subTest(guard):
                self.assertEqual(with_deeds([("go", guard, ())]).deeds[0][1], guard)

    def test_masks_of_guards(self):
        for cell, most in ((0, 3), (1, 7), (3, 65535)):
            for mask in (0, most + 1, -1):
                with self.subTest(cell=cell, mask=mask):
                    self.refused(with_deeds, [("go", ((cell, mask),), ())])

    def test_cells_of_guards(self):
        for cells in ((-1,), (4,), (0, 0), (1, 0), (0, 2, 1), (0, 1, 1), (0, 4), (-1, 0)):
            with self.subTest(cells):
                self.refused(with_deeds, [("go", tuple((cell, 1) for cell in cells), ())])

    def test_changes(self):
        for changes in (((0, ("set", 0)),), ((0, ("set", 1)), (1, ("set", 2)), (3, ("set", 15)))):
            with self.subTest(changes):
                self.assertEqual(with_deeds([("go", (), changes)]).deeds[0][2], changes)

    def test_cells_of_changes(self):
        for cells in ((-1,), (4,), (0, 0), (1, 0), (0, 2, 1), (0, 1, 1), (0, 4), (-1, 0)):
            with self.subTest(cells):
                self.refused(with_deeds, [("go", (), tuple((cell, ("set", 0)) for cell in cells))])

    def test_values_that_are_set(self):
        for cell, value in ((0, 2), (0, -1), (1, 3), (3, 16)):
            with self.subTest(cell=cell, value=value):
                self.refused(with_deeds, [("go", (), ((cell, ("set", value)),))])

    def test_copies_from_a_cell_of_the_same_or_a_smaller_size(self):
        for cell, other in ((0, 0), (1, 2), (2, 1), (1, 0), (3, 0), (3, 2), (3, 3)):
            changes = ((cell, ("copy", other)),)
            self.assertEqual(with_deeds([("go", (), changes)]).deeds[0][2], changes)

    def test_copies_from_a_greater_cell_or_from_none_are_refused(self):
        for cell, other in ((0, 1), (0, 3), (2, 3), (3, 4), (3, -1), (0, -4)):
            with self.subTest(cell=cell, other=other):
                self.refused(with_deeds, [("go", (), ((cell, ("copy", other)),))])

    def test_other_sources_are_refused(self):
        for word in ("", "move", "Set", "copy "):
            with self.subTest(word):
                self.refused(with_deeds, [("go", (), ((0, (word, 0)),))])

    def test_a_later_deed_is_looked_at_too(self):
        self.refused(with_deeds, [("go", (), ()), ("on", ((0, 4),), ())])
        self.refused(with_deeds, [("go", (), ()), ("on", (), ((0, ("set", 2)),))])


class Attributes(unittest.TestCase):
    """Points 2 and 4, and the attributes and methods of a machine."""

    def test_attributes_are_tuples(self):
        machine = samples.swapping()
        self.assertEqual(machine.cells, (("a", 2), ("b", 2)))
        self.assertEqual(machine.deeds, (("swap", ((0, 1),), ((0, ("copy", 1)), (1, ("copy", 0)))),))
        self.assertEqual(machine.first, (1, 2))

    def test_lists_that_were_passed_are_copied_and_not_changed(self):
        cells, deeds = [("a", 2), ("b", 3)], [("go", ((0, 1),), ((1, ("set", 2)),))]
        kept = copy.deepcopy((cells, deeds))
        machine = Machine(cells, deeds, (3, 1))
        moments(machine, (0, 0), [0])
        self.assertEqual((cells, deeds), kept)
        cells.append(("c", 2))
        cells[0] = ("z", 16)
        deeds.clear()
        self.assertEqual((list(machine.cells), list(machine.deeds)), kept)
        self.assertEqual(machine.full, (3, 7))
        self.assertEqual(moments(machine, (0, 0), [0]), [(0, 0), (0, 2)])

    def test_a_refused_call_changes_nothing(self):
        cells, deeds = [("a", 2), ("a", 3)], [("go", ((0, 9),), ())]
        kept = copy.deepcopy((cells, deeds))
        with self.assertRaises(InvalidMachine):
            Machine(cells, deeds, (3, 1))
        self.assertEqual((cells, deeds), kept)

    def test_full(self):
        machine = Machine([("a", 1), ("b", 2), ("c", 16)], [], (1, 1, 1))
        self.assertEqual(machine.full, (1, 3, 65535))
        self.assertIsInstance(vars(Machine)["full"], property)

    def test_cell(self):
        machine = samples.swapping()
        self.assertEqual((machine.cell("a"), machine.cell("b")), (0, 1))
        for name in ("c", "swap", "", "A"):
            with self.assertRaises(InvalidSketch):
                machine.cell(name)

    def test_deed(self):
        machine = samples.three_steps()
        self.assertEqual((machine.deed("up"), machine.deed("on")), (0, 1))
        for name in ("a", "of", "", "UP"):
            with self.assertRaises(NoSuchDeed):
                machine.deed(name)

    def test_methods_stand_in_the_class_itself(self):
        for name in ("full", "cell", "deed"):
            self.assertIn(name, vars(Machine))


class Checking(unittest.TestCase):
    """Points 5 and 6: disks and sketches."""

    def setUp(self):
        self.machine = Machine([("a", 1), ("b", 3), ("c", 16)], [], (1, 7, 1))

    def test_disks(self):
        for disk in ((0, 0, 0), (0, 2, 15), (0, 1, 7)):
            self.assertIsNone(check_disk(self.machine, disk))

    def test_other_disks(self):
        for disk in ((), (0, 0), (0, 0, 0, 0), (1, 0, 0), (0, 3, 0), (0, 0, 16), (-1, 0, 0), (0, 0, -1)):
            with self.subTest(disk), self.assertRaises(InvalidDisk):
                check_disk(self.machine, disk)

    def test_sketches(self):
        for sketch in ((1, 1, 1), (1, 7, 65535), (1, 5, 32768)):
            self.assertIsNone(check_sketch(self.machine, sketch))

    def test_other_sketches(self):
        for sketch in ((), (1, 1), (1, 1, 1, 1), (0, 1, 1), (1, 0, 1), (1, 1, 0), (2, 1, 1), (1, 8, 1),
                       (1, 1, 65536), (-1, 1, 1), (1, 1, -1)):
            with self.subTest(sketch), self.assertRaises(InvalidSketch):
                check_sketch(self.machine, sketch)


class Doing(unittest.TestCase):
    """Point 8."""

    def setUp(self):
        deeds = [("set", ((0, 2), (2, 5)), ((0, ("set", 0)), (1, ("set", 2)))),
                 ("turn", (), ((0, ("copy", 2)), (1, ("copy", 0)), (2, ("copy", 1)))),
                 ("own", (), ((1, ("copy", 1)),)),
                 ("idle", ((1, 4),), ())]
        self.machine = Machine([("a", 3), ("b", 3), ("c", 3)], deeds, (7, 7, 7))

    def test_a_guard_holds_if_each_value_belongs_to_its_mask(self):
        for disk, expected in (((1, 0, 0), True), ((1, 1, 2), True), ((1, 0, 1), False), ((0, 0, 0), False),
                               ((2, 0, 2), False)):
            with self.subTest(disk):
                self.assertIs(can_do(self.machine, disk, 0), expected)

    def test_without_a_guard_each_disk_will_do(self):
        self.assertIs(can_do(self.machine, (2, 2, 2), 1), True)

    def test_set_changes_its_cells_only(self):
        self.assertEqual(after(self.machine, (1, 1, 2), 0), (0, 2, 2))

    def test_all_changes_happen_at_once(self):
        self.assertEqual(after(self.machine, (0, 1, 2), 1), (2, 0, 1))

    def test_copies_of_the_cell_itself_and_deeds_without_changes(self):
        self.assertEqual(after(self.machine, (0, 1, 2), 2), (0, 1, 2))
        self.assertEqual(after(self.machine, (0, 2, 2), 3), (0, 2, 2))

    def test_a_copy_from_a_smaller_cell(self):
        machine = Machine([("a", 16), ("b", 2)], [("go", (), ((0, ("copy", 1)),))], (1, 3))
        self.assertEqual(after(machine, (15, 1), 0), (1, 1))

    def test_all_deeds_of_many_machines(self):
        dice = random.Random(8)
        for _ in range(60):
            machine = samples.random_machine(dice, 3, 3)
            for disk in samples.disks_of(machine):
                for deed in range(len(machine.deeds)):
                    expected = samples.done(machine, disk, deed)
                    self.assertIs(can_do(machine, disk, deed), expected is not None)
                    if expected is not None:
                        self.assertEqual(after(machine, disk, deed), expected)

    def test_errors_in_their_order(self):
        for function in (can_do, after):
            for disk, deed, error in (((1, 0), 0, InvalidDisk), ((1, 0, 3), 9, InvalidDisk),
                                      ((0, 0, 0), 4, NoSuchDeed), ((0, 0, 0), -1, NoSuchDeed)):
                with self.subTest(disk=disk, deed=deed), self.assertRaises(error):
                    function(self.machine, disk, deed)

    def test_a_deed_that_cannot_be_done_has_the_position_0(self):
        for deed in (0, 3):
            with self.assertRaises(CannotDo) as caught:
                after(self.machine, (0, 0, 0), deed)
            self.assertEqual(caught.exception.position, 0)


class Histories(unittest.TestCase):
    """Point 9."""

    def test_the_examples(self):
        self.assertEqual(moments(samples.swapping(), (0, 1), [0]), [(0, 1), (1, 0)])
        with self.assertRaises(CannotDo) as caught:
            moments(samples.swapping(), (0, 1), [0, 0])
        self.assertEqual(caught.exception.position, 1)

    def test_no_deeds(self):
        self.assertEqual(moments(samples.three_steps(), (0,), []), [(0,)])

    def test_a_history_of_n_deeds_has_n_plus_1_moments(self):
        machine = samples.counter(3)
        disks = moments(machine, (0, 0, 0), [0, 1, 0, 2, 0, 1, 0])
        self.assertEqual([a + 2 * b + 4 * c for a, b, c in disks], list(range(8)))

    def test_deeds_may_be_a_tuple_and_are_not_changed(self):
        deeds = [0, 1]
        self.assertEqual(moments(samples.three_steps(), (0,), deeds), [(0,), (1,), (2,)])
        self.assertEqual(deeds, [0, 1])
        self.assertEqual(moments(samples.three_steps(), (0,), (0, 1)), [(0,), (1,), (2,)])

    def test_a_new_list_each_time(self):
        machine = samples.three_steps()
        found = moments(machine, (0,), [0])
        found.append("more")
        self.assertEqual(moments(machine, (0,), [0]), [(0,), (1,)])

    def test_the_first_disk(self):
        machine = samples.three_steps()
        for disk in ((1,), (2,), (3,), (-1,), (), (0, 0)):
            with self.subTest(disk), self.assertRaises(InvalidDisk):
                moments(machine, disk, [0])

    def test_errors_in_their_order(self):
        machine = samples.three_steps()
        for disk, deeds, error in (((1,), [5], InvalidDisk), ((3,), [1], InvalidDisk), ((0,), [1, 2], NoSuchDeed),
                                   ((0,), [1, -1], NoSuchDeed), ((0,), [0, 0, 7], NoSuchDeed)):
            with self.subTest(disk=disk, deeds=deeds), self.assertRaises(error):
                moments(machine, disk, deeds)

    def test_the_position_is_the_index_of_the_first_deed_that_cannot_be_done(self):
        machine = samples.three_steps()
        for deeds, position in (([1], 0), ([1, 1], 0), ([0, 0], 1), ([0, 1, 1, 0], 2), ([0, 0, 1], 1)):
            with self.subTest(deeds), self.assertRaises(CannotDo) as caught:
                moments(machine, (0,), deeds)
            self.assertEqual(caught.exception.position, position)


if __name__ == "__main__":
    unittest.main()
