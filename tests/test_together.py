"""Points 50 and 51, and the heading raisedwreck/together.py."""

import copy
import itertools
import random
import unittest

from raisedwreck.errors import InvalidMachine, InvalidSketch
from raisedwreck.machines import Machine
from raisedwreck.machinetext import format_machine
from raisedwreck.telling import tell
from raisedwreck.together import side_by_side, widened
from tests import samples

FIRST = """cell a 2
cell b 3
first b 0
deed go
when a 0
when b 0 2
set a 1
copy b a
deed on
copy a a
"""

SECOND = """cell b 4
cell c0 2
first b 1 3
first c0 1
deed go
when c0 1
copy b c0
set c0 0
"""

BOTH = """cell xa 2
cell xb 3
cell yb 4
cell yc0 2
first xb 0
first yb 1 3
first yc0 1
deed xgo
when xa 0
when xb 0 2
set xa 1
copy xb xa
deed xon
copy xa xa
deed ygo
when yc0 1
copy yb yc0
set yc0 0
"""


def first_machine():
    deeds = [("go", ((0, 1), (1, 5)), ((0, ("set", 1)), (1, ("copy", 0)))), ("on", (), ((0, ("copy", 0)),))]
    return Machine([("a", 2), ("b", 3)], deeds, (3, 1))


def second_machine():
    return Machine([("b", 4), ("c0", 2)], [("go", ((1, 2),), ((0, ("copy", 1)), (1, ("set", 0))))], (10, 2))


def plain_machine(cells, deeds, name="c"):
    """A machine with so many cells and deeds of no special kind."""
    rows = [(f"{name}{number}", 2) for number in range(cells)]
    return Machine(rows, [(f"{name}{number}", (), ()) for number in range(deeds)], (1,) * cells)


def parts(machine):
    return machine.cells, machine.deeds, machine.first


class SideBySide(unittest.TestCase):
    """Point 50: side_by_side."""

    def test_cells_deeds_and_first_sketch(self):
        both = side_by_side(first_machine(), second_machine())
        self.assertIsInstance(both, Machine)
        self.assertEqual(both.cells, (("xa", 2), ("xb", 3), ("yb", 4), ("yc0", 2)))
        self.assertEqual(both.deeds, (
            ("xgo", ((0, 1), (1, 5)), ((0, ("set", 1)), (1, ("copy", 0)))),
            ("xon", (), ((0, ("copy", 0)),)),
            ("ygo", ((3, 2),), ((2, ("copy", 3)), (3, ("set", 0))))))
        self.assertEqual(both.first, (3, 1, 10, 2))

    def test_the_texts_of_the_machines(self):
        self.assertEqual(format_machine(first_machine()), FIRST)
        self.assertEqual(format_machine(second_machine()), SECOND)
        self.assertEqual(format_machine(side_by_side(first_machine(), second_machine())), BOTH)

    def test_a_machine_beside_itself(self):
        machine = second_machine()
        both = side_by_side(machine, machine)
        self.assertEqual([name for name, size in both.cells], ["xb", "xc0", "yb", "yc0"])
        self.assertEqual([deed[0] for deed in both.deeds], ["xgo", "ygo"])
        self.assertEqual(both.first, (10, 2, 10, 2))

    def test_machines_without_deeds(self):
        both = side_by_side(plain_machine(1, 0), plain_machine(1, 0))
        self.assertEqual(parts(both), ((("xc0", 2), ("yc0", 2)), (), (1, 1)))

    def test_24_and_25_cells(self):
        for first in (1, 12, 23):
            both = side_by_side(plain_machine(first, 0), plain_machine(24 - first, 0))
            self.assertEqual(len(both.cells), 24)
            with self.assertRaises(InvalidMachine):
                side_by_side(plain_machine(first, 0), plain_machine(25 - first, 0))
            with self.assertRaises(InvalidMachine):
                side_by_side(plain_machine(25 - first, 0), plain_machine(first, 0))

    def test_400_and_401_deeds(self):
        for first in (0, 1, 200, 400):
            both = side_by_side(plain_machine(1, first), plain_machine(1, 400 - first))
            self.assertEqual(len(both.deeds), 400)
            if first:
                with self.assertRaises(InvalidMachine):
                    side_by_side(plain_machine(1, first), plain_machine(1, 401 - first))

    def test_names_of_11_and_12_characters(self):
        small = Machine([("a", 2)], [("go", (), ())], (1,))
        for name, fits in (("abcdefghijk", True), ("abcdefghijkl", False)):
            for other in (Machine([(name, 2)], [("go", (), ())], (1,)), Machine([("a", 2)], [(name, (), ())], (1,))):
                for pair in ((small, other), (other, small), (other, other)):
                    if fits:
                        side_by_side(*pair)
                    else:
                        with self.assertRaises(InvalidMachine):
                            side_by_side(*pair)

    def test_the_two_machines_stay_as_they_were(self):
        first, second = first_machine(), second_machine()
        kept = copy.deepcopy((parts(first), parts(second)))
        both = side_by_side(first, second)
        self.assertEqual((parts(first), parts(second)), kept)
        self.assertEqual(parts(side_by_side(first, second)), parts(both))

    def test_histories_are_mixed_in_any_way(self):
        dice = random.Random(50)
        for _ in range(60):
            first, second = (samples.random_machine(dice, 2, 3, 4) for _ in range(2))
            both = side_by_side(first, second)
            for pair in itertools.product(samples.disks_of(first), samples.disks_of(second)):
                steps = [new + pair[1] for new in samples.steps_of(first, pair[0])]
                steps += [pair[0] + new for new in samples.steps_of(second, pair[1])]
                self.assertEqual(samples.steps_of(both, pair[0] + pair[1]), steps)
                self.assertEqual(samples.is_in(pair[0] + pair[1], both.first),
                                 samples.is_in(pair[0], first.first) and samples.is_in(pair[1], second.first))


class Widening(unittest.TestCase):
    """Point 50: widened."""

    def test_a_sketch_of_each_machine(self):
        first, second = first_machine(), second_machine()
        self.assertEqual(widened(first, second, (2, 5)), (2, 5, 15, 3))
        self.assertEqual(widened(first, second, (2, 5), of_second=False), (2, 5, 15, 3))
        self.assertEqual(widened(first, second, (9, 1), of_second=True), (3, 7, 9, 1))
        self.assertIsInstance(widened(first, second, (2, 5)), tuple)

    def test_wrong_sketches(self):
        first, second = first_machine(), second_machine()
        for wrong in ((), (3,), (3, 7, 15, 3), (0, 7), (3, 0), (4, 7), (3, 8), (-1, 7), (3, 7, 1)):
            with self.subTest(wrong), self.assertRaises(InvalidSketch):
                widened(first, second, wrong)
        for wrong in ((), (3,), (3, 7, 15, 3), (0, 3), (15, 0), (16, 3), (15, 4), (15, -1)):
            with self.subTest(wrong), self.assertRaises(InvalidSketch):
                widened(first, second, wrong, of_second=True)

    def test_a_sketch_of_the_other_machine(self):
        first, second = first_machine(), second_machine()
        self.assertEqual(widened(first, second, (3, 7)), (3, 7, 15, 3))
        with self.assertRaises(InvalidSketch):
            widened(first, second, (3, 7), of_second=True)
        with self.assertRaises(InvalidSketch):
            widened(first, second, (15, 3))


class TellingTogether(unittest.TestCase):
    """Point 51."""

    def test_a_piece_is_told_side_by_side_as_alone(self):
        dice = random.Random(51)
        counts = {}
        for _ in range(300):
            machines = [samples.random_machine(dice, 2, 3, 4) for _ in range(2)]
            both = side_by_side(*machines)
            questions = [samples.random_question(dice, machine) for machine in machines]
            ends = [samples.least_deeds(machine, image, []) for machine, (image, _) in zip(machines, questions)]
            image = questions[0][0] + questions[1][0]
            for at in range(2):
                piece = [widened(*machines, sketch, of_second=at == 1) for sketch in questions[at][1]]
                told = tell(both, image, piece).told
                if None in ends:
                    self.assertTrue(told)
                    counts[None] = counts.get(None, 0) + 1
                else:
                    self.assertIs(told, samples.least_deeds(machines[at], *questions[at]) is None)
                    counts[at, told] = counts.get((at, told), 0) + 1
                self.assertIs(told, samples.least_deeds(both, image, piece) is None)
        self.assertEqual(len(counts), 5)
        self.assertGreater(min(counts.values()), 20)

    def test_one_contradictory_image(self):
        steps, swap = samples.three_steps(), samples.swapping()
        both = side_by_side(steps, swap)
        self.assertFalse(tell(both, (4, 1, 2), [widened(steps, swap, (1, 1), of_second=True)]).told)
        # No history leads to this disk of the second machine, so even the empty piece is told.
        for piece in ([], [widened(steps, swap, (2,))], [widened(steps, swap, (2, 2), of_second=True)]):
            self.assertTrue(tell(both, (4, 1, 1), piece).told)


if __name__ == "__main__":
    unittest.main()
