"""Point 16, and the heading raisedwreck/regression.py."""

import random
import unittest

from raisedwreck.errors import InvalidSketch, NoSuchDeed
from raisedwreck.machines import Machine
from raisedwreck.regression import before
from tests import samples


def deed_before(guard, changes, sketch):
    """The sketch before a deed of a machine with cells of the sizes 2, 3 and 4."""
    machine = Machine([("a", 2), ("b", 3), ("c", 4)], [("idle", (), ()), ("go", guard, changes)], (3, 7, 15))
    return before(machine, sketch, 1)


class Before(unittest.TestCase):
    def test_the_example(self):
        machine = Machine([("a", 2), ("b", 3)], [("go", ((0, 3),), ((1, ("copy", 0)),))], (3, 7))
        self.assertEqual((before(machine, (3, 2), 0), before(machine, (1, 2), 0)), ((2, 7), None))

    def test_cells_that_do_not_change_keep_their_sets(self):
        self.assertEqual(deed_before((), (), (1, 5, 6)), (1, 5, 6))

    def test_a_cell_that_is_set_had_any_value(self):
        self.assertEqual(deed_before((), ((1, ("set", 2)),), (1, 4, 6)), (1, 7, 6))

    def test_a_value_that_does_not_belong_to_the_set(self):
        self.assertIsNone(deed_before((), ((1, ("set", 2)),), (1, 3, 6)))
        self.assertIsNone(deed_before((), ((0, ("set", 0)), (1, ("set", 2))), (1, 3, 6)))

    def test_a_copied_cell_has_a_value_of_the_other_set(self):
        self.assertEqual(deed_before((), ((2, ("copy", 1)),), (1, 7, 10)), (1, 2, 15))
        self.assertEqual(deed_before((), ((2, ("copy", 1)),), (1, 3, 6)), (1, 2, 15))
        self.assertIsNone(deed_before((), ((2, ("copy", 1)),), (1, 1, 6)))
        self.assertIsNone(deed_before((), ((2, ("copy", 0)),), (3, 7, 12)))

    def test_a_cell_that_is_copied_twice(self):
        changes = ((1, ("copy", 0)), (2, ("copy", 0)))
        self.assertEqual(deed_before((), changes, (3, 3, 6)), (2, 7, 15))
        self.assertIsNone(deed_before((), changes, (3, 1, 2)))

    def test_a_cell_that_is_copied_and_changed(self):
        self.assertEqual(deed_before((), ((1, ("set", 1)), (2, ("copy", 1))), (1, 2, 5)), (1, 5, 15))
        self.assertEqual(deed_before((), ((1, ("copy", 0)), (2, ("copy", 1))), (3, 2, 5)), (2, 5, 15))
        self.assertEqual(deed_before((), ((1, ("copy", 1)),), (3, 5, 15)), (3, 5, 15))

    def test_the_guard(self):
        self.assertEqual(deed_before(((0, 2), (1, 6)), (), (3, 3, 15)), (2, 2, 15))
        self.assertEqual(deed_before(((1, 6),), ((1, ("set", 0)),), (3, 1, 15)), (3, 6, 15))
        self.assertEqual(deed_before(((1, 6),), ((2, ("copy", 1)),), (3, 7, 3)), (3, 2, 15))
        self.assertIsNone(deed_before(((0, 2),), (), (1, 7, 15)))
        self.assertIsNone(deed_before(((1, 4),), ((2, ("copy", 1)),), (3, 7, 11)))

    def test_the_disks_of_the_sketch_before_are_those_from_which_the_deed_leads_into_the_sketch(self):
        dice = random.Random(16)
        none = 0
        for _ in range(300):
            machine = samples.random_machine(dice)
            sketch = samples.random_sketch(dice, machine.full)
            for deed in range(len(machine.deeds)):
                found = before(machine, sketch, deed)
                leading = [disk for disk in samples.disks_of(machine)
                           if samples.done(machine, disk, deed) is not None
                           and samples.is_in(samples.done(machine, disk, deed), sketch)]
                if found is None:
                    none += 1
                    self.assertEqual(leading, [])
                else:
                    self.assertTrue(all(1 <= mask <= most for mask, most in zip(found, machine.full)))
                    self.assertEqual(leading, [disk for disk in samples.disks_of(machine)
                                               if samples.is_in(disk, found)])
        self.assertGreater(none, 50)

    def test_errors_in_their_order(self):
        machine = samples.three_steps()
        for sketch, deed, error in (((0,), 0, InvalidSketch), ((8,), 7, InvalidSketch), ((1, 1), -1, InvalidSketch),
                                    ((), 0, InvalidSketch), ((7,), 2, NoSuchDeed), ((7,), -1, NoSuchDeed)):
            with self.subTest(sketch=sketch, deed=deed), self.assertRaises(error):
                before(machine, sketch, deed)


if __name__ == "__main__":
    unittest.main()
