"""Points 27 to 30, and the heading raisedwreck/explaining.py."""

import copy
import itertools
import random
import unittest

from raisedwreck.errors import InvalidSketch, NotContradictory, TooManyDisks
from raisedwreck.explaining import core, count_histories, explanation, told_readings
from raisedwreck.machines import Machine
from tests import samples

WRONG_SKETCHES = ((), (3,), (3, 3, 3), (0, 3), (3, 0), (4, 3), (3, 4), (-1, 3))


def wide(many, size, deeds=()):
    """A machine whose first disks are all disks."""
    return Machine([(f"c{number}", size) for number in range(many)], list(deeds), ((1 << size) - 1,) * many)


def plain_count(machine, image, length):
    """The number of histories, by a walk forward over all disks with the number of ways to each."""
    ways = {disk: 1 for disk in samples.disks_of(machine) if samples.is_in(disk, machine.first)}
    for _ in range(length):
        later = {}
        for disk, many in ways.items():
            for new in samples.steps_of(machine, disk):
                later[new] = later.get(new, 0) + many
        ways = later
    return sum(many for disk, many in ways.items() if samples.is_in(disk, image))


def readings_sketch(machine, cells, reading):
    """The sketch of all disks with a reading."""
    found = dict(zip(cells, reading))
    return tuple(1 << found[cell] if cell in found else most for cell, most in enumerate(machine.full))


def plain_readings(machine, image, cells):
    """The told readings, one by one, by a walk over all disks."""
    return [reading for reading in itertools.product(*[range(machine.cells[cell][1]) for cell in cells])
            if samples.least_deeds(machine, image, [readings_sketch(machine, cells, reading)]) is None]


def contradictory(dice):
    """A machine and a contradictory image, where not all cells are needed."""
    while True:
        machine = samples.random_machine(dice)
        image = samples.random_sketch(dice, machine.full, 0.2)
        if samples.least_deeds(machine, image, []) is None:
            return machine, image


class Explaining(unittest.TestCase):
    """Point 27: explanation."""

    def check(self, machine, image):
        """Compare the explanation with a walk over all disks; return True if there is one."""
        least = samples.least_deeds(machine, image, [])
        found = explanation(machine, image)
        if least is None:
            self.assertIsNone(found)
            return False
        self.assertIsInstance(found, tuple)
        disk, deeds = found
        self.assertIsInstance(deeds, tuple)
        self.assertEqual(len(deeds), least)
        self.assertTrue(samples.is_in(samples.moments_of(machine, disk, deeds)[-1], image))
        return True

    def test_three_steps(self):
        machine = samples.three_steps()
        self.assertEqual(explanation(machine, (1,)), ((0,), ()))
        self.assertEqual(explanation(machine, (2,)), ((0,), (0,)))
        self.assertEqual(explanation(machine, (4,)), ((0,), (0, 1)))
        self.assertEqual(explanation(machine, (6,)), ((0,), (0,)))
        self.assertEqual(explanation(machine, (7,)), ((0,), ()))

    def test_contradictory_images(self):
        for image, expected in (((1, 1), None), ((2, 2), None), ((1, 2), ((0, 1), ())), ((2, 1), ((0, 1), (0,)))):
            self.assertEqual(explanation(samples.swapping(), image), expected)

    def test_many_machines(self):
        dice = random.Random(27)
        explained = 0
        for _ in range(400):
            machine = samples.random_machine(dice)
            explained += self.check(machine, samples.random_sketch(dice, machine.full))
        self.assertTrue(100 < explained < 390)

    def test_a_long_history(self):
        self.assertEqual(len(explanation(samples.counter(9), (2,) * 9)[1]), 511)

    def test_wrong_images(self):
        for wrong in WRONG_SKETCHES:
            with self.subTest(wrong), self.assertRaises(InvalidSketch):
                explanation(samples.swapping(), wrong)


class Counting(unittest.TestCase):
    """Point 29: count_histories."""

    def test_three_steps(self):
        machine = samples.three_steps()
        for length in range(13):
            for value in range(3):
                self.assertEqual(count_histories(machine, (1 << value,), length), int(length == value))
            self.assertEqual(count_histories(machine, (7,), length), int(length < 3))

    def test_deeds_that_can_be_done_again_and_again(self):
        deeds = [(f"s{value}", (), ((0, ("set", value)),)) for value in range(3)] + [("no", ((0, 1),), ())]
        machine = Machine([("a", 3)], deeds, (1,))
        self.assertEqual(count_histories(machine, (7,), 0), 1)
        self.assertEqual(count_histories(machine, (6,), 0), 0)
        self.assertEqual(count_histories(machine, (7,), 1), 4)
        self.assertEqual(count_histories(machine, (1,), 1), 2)
        for length in range(13):
            for image in range(1, 8):
                self.assertEqual(count_histories(machine, (image,), length), plain_count(machine, (image,), length))

    def test_pairs_of_a_first_disk_and_deeds_are_counted(self):
        # Both first disks and both deeds lead to the same disk.
        deeds = [("one", (), ((0, ("set", 2)),)), ("two", (), ((0, ("set", 2)),))]
        machine = Machine([("a", 3)], deeds, (3,))
        self.assertEqual([count_histories(machine, (4,), length) for length in range(5)], [0, 4, 8, 16, 32])
        self.assertEqual([count_histories(machine, (7,), length) for length in range(5)], [2, 4, 8, 16, 32])
        self.assertEqual([count_histories(machine, (2,), length) for length in range(5)], [1, 0, 0, 0, 0])

    def test_many_machines(self):
        dice = random.Random(29)
        for _ in range(150):
            machine = samples.random_machine(dice)
            image = samples.random_sketch(dice, machine.full)
            for length in range(13):
                expected = plain_count(machine, image, length)
                self.assertEqual(count_histories(machine, image, length), expected)

    def test_contradictory_images(self):
        dice = random.Random(30)
        for _ in range(30):
            machine, image = contradictory(dice)
            self.assertEqual([count_histories(machine, image, length) for length in range(13)], [0] * 13)

    def test_many_first_disks(self):
        deeds = [("up", ((0, 1),), ((0, ("set", 1)),)), ("copy", (), ((1, ("copy", 0)),)),
                 ("some", ((2, 4), (3, 1)), ((2, ("set", 0)),))]
        for many in (12, 13):
            machine = wide(many, 3, deeds)
            for length in range(4):
                # The cells that no deed touches can be counted by themselves.
                small = wide(4, 3, deeds)
                for image in ((7, 7, 7, 7), (2, 7, 7, 7), (2, 2, 5, 1), (7, 1, 1, 6)):
                    expected = plain_count(small, image, length)
                    rest = (3,) * 2 + (7,) * (many - 6)
                    self.assertEqual(count_histories(machine, image + rest, length), expected * 4 * 3 ** (many - 6))

    def test_at_the_number_of_first_disks_that_are_listed(self):
        for cells in ((16, 16, 16), (16, 16, 16, 2), (16, 16, 15)):
            full = tuple((1 << size) - 1 for size in cells)
            deeds = [("set", ((0, 3),), ((1, ("set", 1)),))]
            machine = Machine([(f"c{at}", size) for at, size in enumerate(cells)], deeds, full)
            disks = len(samples.disks_of(machine))
            self.assertEqual(count_histories(machine, full, 0), disks)
            self.assertEqual(count_histories(machine, full, 5), disks // 8)
            self.assertEqual(count_histories(machine, (1,) + full[1:], 5), disks // 16)

    def test_many_first_disks_that_are_not_all_disks(self):
        # On a first disk the first two cells are 0, and the thirteen others have any value.
        deeds = [("up", ((0, 1),), ((0, ("set", 1)),)), ("take", ((0, 2),), ((1, ("copy", 2)),)),
                 ("back", (), ((0, ("set", 0)), (2, ("set", 1))))]
        cells = [(f"c{at}", 2) for at in range(15)]
        machine = Machine(cells, deeds, (1, 1) + (3,) * 13)
        small = Machine(cells[:3], deeds, (1, 1, 3))
        for length in range(7):
            for image in ((3, 3, 3), (2, 3, 3), (1, 2, 3), (2, 2, 1), (1, 2, 1), (3, 1, 1)):
                # Of the twelve cells that no deed touches, two have one value in the image.
                expected = 2 ** 10 * plain_count(small, image, length)
                self.assertEqual(count_histories(machine, image + (3, 2, 1) + (3,) * 9, length), expected)

    def test_far_more_first_disks_than_a_walk_could_see(self):
        machine = wide(24, 16, [("set", (), ((0, ("set", 5)),))])
        self.assertEqual(count_histories(machine, (65535,) * 24, 0), 16 ** 24)
        self.assertEqual(count_histories(machine, (32,) + (65535,) * 23, 0), 16 ** 23)
        self.assertEqual(count_histories(machine, (32,) + (65535,) * 23, 12), 16 ** 24)
        self.assertEqual(count_histories(machine, (65503,) + (65535,) * 23, 12), 0)

    def test_a_machine_without_deeds(self):
        machine = Machine([("a", 2)], [], (1,))
        self.assertEqual([count_histories(machine, (3,), length) for length in range(4)], [1, 0, 0, 0])

    def test_wrong_images(self):
        for wrong in WRONG_SKETCHES:
            with self.subTest(wrong), self.assertRaises(InvalidSketch):
                count_histories(samples.swapping(), wrong, 2)


class Cores(unittest.TestCase):
    """Point 28: core."""

    def test_both_cells_are_needed(self):
        self.assertEqual(core(samples.swapping(), (1, 1)), [0, 1])
        self.assertEqual(core(samples.swapping(), (2, 2)), [0, 1])

    def test_the_first_cells_are_given_up_first(self):
        # The two cells of each pair are always equal, and so are the pairs.
        deeds = [("all", (), tuple((cell, ("set", 1)) for cell in range(4)))]
        machine = Machine([(f"c{cell}", 2) for cell in range(4)], deeds, (1, 1, 1, 1))
        self.assertEqual(core(machine, (1, 2, 1, 2)), [2, 3])
        self.assertEqual(core(machine, (1, 2, 3, 2)), [0, 3])
        self.assertEqual(core(machine, (1, 2, 3, 3)), [0, 1])
        self.assertEqual(core(machine, (1, 2, 2, 2)), [0, 3])

    def test_one_cell_alone_and_no_cell(self):
        machine = Machine([("a", 3), ("b", 2)], [("up", (), ((0, ("set", 1)),))], (1, 3))
        self.assertEqual(core(machine, (4, 1)), [0])
        self.assertEqual(core(machine, (4, 3)), [0])

    def test_many_machines(self):
        dice = random.Random(28)
        sizes = set()
        for _ in range(150):
            machine, image = contradictory(dice)
            found = core(machine, image)
            self.assertIsInstance(found, list)
            self.assertEqual(found, samples.plain_core(machine, image))
            self.check_core(machine, image, found)
            sizes.add(len(found))
        self.assertTrue({1, 2} <= sizes)

    def check_core(self, machine, image, found):
        """Each cell of a core is needed, and together they are enough."""
        disks = samples.reached(machine)
        masks = [image[cell] if cell in found else machine.full[cell] for cell in range(len(image))]
        self.assertFalse(any(samples.is_in(disk, masks) for disk in disks))
        for cell in found:
            wider = masks[:cell] + [machine.full[cell]] + masks[cell + 1:]
            self.assertTrue(any(samples.is_in(disk, wider) for disk in disks))

    def test_images_that_are_not_contradictory(self):
        for image in ((1, 2), (2, 1), (3, 3), (3, 1), (2, 3)):
            with self.subTest(image), self.assertRaises(NotContradictory):
                core(samples.swapping(), image)

    def test_wrong_images_come_first(self):
        for wrong in WRONG_SKETCHES:
            with self.subTest(wrong), self.assertRaises(InvalidSketch):
                core(samples.swapping(), wrong)


class Readings(unittest.TestCase):
    """Point 30: told_readings."""

    def test_three_steps(self):
        machine = samples.three_steps()
        self.assertEqual(told_readings(machine, (4,), [0]), [(0,), (1,), (2,)])
        self.assertEqual(told_readings(machine, (2,), [0]), [(0,), (1,)])
        self.assertEqual(told_readings(machine, (6,), [0]), [(0,), (1,)])
        self.assertEqual(told_readings(machine, (7,), [0]), [(0,)])

    def test_readings_of_several_cells_ascend(self):
        machine = samples.counter(3)
        self.assertEqual(told_readings(machine, (1, 1, 2), [0, 2]), [(0, 0), (0, 1), (1, 0)])
        self.assertEqual(told_readings(machine, (2, 2, 2), [1, 2]), [(0, 0), (0, 1), (1, 0), (1, 1)])
        self.assertEqual(told_readings(machine, (1, 2, 1), [0, 1, 2]), [(0, 0, 0), (0, 1, 0), (1, 0, 0)])

    def test_contradictory_images_tell_all_readings(self):
        self.assertEqual(told_readings(samples.swapping(), (1, 1), [0, 1]), [(0, 0), (0, 1), (1, 0), (1, 1)])
        self.assertEqual(told_readings(samples.swapping(), (2, 2), [1]), [(0,), (1,)])

    def test_no_cells(self):
        # The one reading is the empty one, and each disk has it.
        for image in ((1, 1), (1, 2), (3, 3)):
            self.assertEqual(told_readings(samples.swapping(), image, []), [()])

    def test_many_machines(self):
        dice = random.Random(33)
        lengths = set()
        for _ in range(150):
            machine = samples.random_machine(dice, 4, 3)
            image = samples.random_sketch(dice, machine.full)
            many = dice.randint(0, min(3, len(machine.cells)))
            cells = sorted(dice.sample(range(len(machine.cells)), many))
            found = told_readings(machine, image, cells)
            self.assertIsInstance(found, list)
            self.assertTrue(all(isinstance(reading, tuple) for reading in found))
            self.assertEqual(found, plain_readings(machine, image, cells))
            lengths.add(len(found))
        self.assertTrue({0, 1, 2} <= lengths)

    def test_more_than_4096_readings(self):
        machine = Machine([("a", 16), ("b", 16), ("c", 16), ("d", 2)], [], (1, 1, 1, 3))
        image = (65535, 65535, 65535, 3)
        self.assertEqual(told_readings(machine, image, [0, 1, 2]), [(0, 0, 0)])
        with self.assertRaises(TooManyDisks):
            told_readings(machine, image, [0, 1, 2, 3])

    def test_4096_readings_of_a_contradictory_image(self):
        machine = Machine([("a", 16), ("b", 16), ("c", 16), ("d", 2)], [], (1, 1, 1, 3))
        found = told_readings(machine, (2, 1, 1, 3), [0, 1, 2])
        self.assertEqual(found, list(itertools.product(range(16), repeat=3)))
        with self.assertRaises(TooManyDisks):
            told_readings(machine, (2, 1, 1, 3), [0, 1, 2, 3])

    def test_just_more_than_4096_readings(self):
        # 17 * 241 is 4097, but no cell has 17 values; 5 * 5 * 13 * 13 is 4225.
        sizes = [5, 5, 13, 13]
        machine = Machine([(f"c{at}", size) for at, size in enumerate(sizes)], [], (1,) * 4)
        full = machine.full
        with self.assertRaises(TooManyDisks):
            told_readings(machine, full, [0, 1, 2, 3])
        self.assertEqual(told_readings(machine, full, [1, 2, 3]), [(0, 0, 0)])

    def test_wrong_images(self):
        for wrong in WRONG_SKETCHES:
            for cells in ([], [0], [5]):
                with self.subTest(wrong=wrong, cells=cells), self.assertRaises(InvalidSketch):
                    told_readings(samples.swapping(), wrong, cells)

    def test_wrong_cells(self):
        for cells in ([0, 0], [1, 0], [2], [-1], [0, 2], [-1, 0], [0, 1, 1], [0, 1, 2]):
            for image in ((3, 3), (1, 1)):
                with self.subTest(cells=cells, image=image), self.assertRaises(InvalidSketch):
                    told_readings(samples.swapping(), image, cells)

    def test_wrong_cells_come_before_too_many_readings(self):
        machine = wide(4, 16)
        for cells in ([0, 1, 2, 3, 4], [0, 1, 2, 3, 3], [3, 2, 1, 0], [-1, 0, 1, 2, 3]):
            with self.subTest(cells), self.assertRaises(InvalidSketch):
                told_readings(machine, machine.full, cells)
        with self.assertRaises(InvalidSketch):
            told_readings(machine, (65536, 1, 1, 1), [0, 1, 2, 3])


class Calls(unittest.TestCase):
    """Points 2 and 4."""

    def test_nothing_that_was_passed_is_changed(self):
        machine = samples.swapping()
        cells = [0, 1]
        kept = copy.deepcopy((machine.cells, machine.deeds, machine.first))
        for image in ((1, 1), (3, 3)):
            explanation(machine, image)
            count_histories(machine, image, 3)
            told_readings(machine, image, cells)
        core(machine, (1, 1))
        self.assertEqual((machine.cells, machine.deeds, machine.first), kept)
        self.assertEqual(cells, [0, 1])

    def test_lists_are_new_and_equal_calls_have_equal_results(self):
        machine = samples.swapping()
        for image in ((1, 1), (3, 3), (2, 1)):
            self.assertEqual(explanation(machine, image), explanation(machine, image))
            first, second = told_readings(machine, image, [0, 1]), told_readings(machine, image, [0, 1])
            self.assertEqual(first, second)
            self.assertIsNot(first, second)
        first, second = core(machine, (1, 1)), core(machine, (1, 1))
        first.append(7)
        self.assertEqual(second, core(machine, (1, 1)))


if __name__ == "__main__":
    unittest.main()
