"""Point 61, and the heading raisedwreck/inside.py."""

import itertools
import random
import unittest

from raisedwreck.errors import InvalidMachine, InvalidSketch
from raisedwreck.inside import inner_sketch, inside
from raisedwreck.judging import judge_history, judge_paper
from raisedwreck.machines import Machine
from raisedwreck.machinetext import format_machine
from raisedwreck.telling import tell
from tests import samples

INSIDE = """cell a 3
cell b 2
cell c 4
cell d 2
cell e 3
first a 0
first c 1 3
deed xgo
when b 1
when c 0 2
set c 2
copy e a
deed xno
deed yin
when a 2
when b 0 1
when d 1
when e 0 1
set b 1
copy e e
deed yon
when a 2
when d 1
copy b b
deed yup
when a 2
when b 1
when d 1
when e 2
"""


def outer_machine():
    deeds = [("go", ((1, 2), (2, 5)), ((2, ("set", 2)), (4, ("copy", 0)))), ("no", (), ())]
    return Machine([("a", 3), ("b", 2), ("c", 4), ("d", 2), ("e", 3)], deeds, (1, 3, 10, 3, 7))


def inner_machine():
    """Its cells stand in the outer machine in another order: the first one behind the second one."""
    deeds = [("in", ((0, 3), (1, 3)), ((0, ("copy", 2)), (1, ("set", 1)))), ("on", (), ((1, ("copy", 1)),)),
             ("up", ((0, 4), (1, 2)), ())]
    return Machine([("p", 3), ("q", 2), ("r", 3)], deeds, (2, 2, 4))


PLACES = [4, 1, 0]
# No cells but c and d may be in the guard.
GUARD = ((3, 2),)


def simple(cells, size=2, deeds=()):
    return Machine([(f"c{number}", size) for number in range(cells)], deeds, (1,) * cells)


def parts(machine):
    return machine.cells, machine.deeds, machine.first


def plain_steps(outer, inner, places, guard, disk):
    """The disks after all deeds of both machines that can be done on a disk of the outer one."""
    steps = samples.steps_of(outer, disk)
    if samples.is_in([disk[cell] for cell, _ in guard], [mask for _, mask in guard]):
        for new in samples.steps_of(inner, tuple(disk[place] for place in places)):
            values = dict(zip(places, new))
            steps.append(tuple(values.get(cell, value) for cell, value in enumerate(disk)))
    return steps


def random_pair(dice):
    """An outer machine, an inner one, places and a guard."""
    while True:
        outer = samples.random_machine(dice, 4, 3, 4)
        inner = samples.random_machine(dice, 2, 3, 4)
        ways = [places for places in itertools.permutations(range(len(outer.cells)), len(inner.cells))
                if all(outer.cells[place][1] == cell[1] for place, cell in zip(places, inner.cells))]
        if ways:
            places = list(dice.choice(ways))
            free = [cell for cell in range(len(outer.cells)) if cell not in places]
            guarded = sorted(dice.sample(free, dice.randint(0, len(free))))
            return outer, inner, places, tuple((cell, dice.randint(1, outer.full[cell])) for cell in guarded)


class Inside(unittest.TestCase):
    """Point 61: inside."""

    def test_cells_first_sketch_and_deeds(self):
        outer = outer_machine()
        machine = inside(outer, inner_machine(), PLACES, ((2, 3), (3, 2)))
        self.assertIsInstance(machine, Machine)
        self.assertEqual(machine.cells, outer.cells)
        self.assertEqual(machine.first, outer.first)
        self.assertEqual(machine.deeds, (
            ("xgo", ((1, 2), (2, 5)), ((2, ("set", 2)), (4, ("copy", 0)))),
            ("xno", (), ()),
            ("yin", ((1, 3), (2, 3), (3, 2), (4, 3)), ((1, ("set", 1)), (4, ("copy", 0)))),
            ("yon", ((2, 3), (3, 2)), ((1, ("copy", 1)),)),
            ("yup", ((1, 2), (2, 3), (3, 2), (4, 4)), ())))

    def test_the_text_of_the_machine(self):
        outer = outer_machine()
        inner = Machine([("p", 3), ("q", 2)], [("in", ((0, 3), (1, 3)), ((0, ("copy", 0)), (1, ("set", 1)))),
                                               ("on", (), ((1, ("copy", 1)),)), ("up", ((0, 4), (1, 2)), ())], (1, 1))
        self.assertEqual(format_machine(inside(outer, inner, [4, 1], ((0, 4), (3, 2)))), INSIDE)

    def test_places_that_ascend_and_no_guard(self):
        inner = Machine([("p", 3), ("q", 2)], [("in", ((0, 1), (1, 2)), ((0, ("set", 2)), (1, ("copy", 1))))], (1, 1))
        machine = inside(outer_machine(), inner, [0, 3], ())
        self.assertEqual(machine.deeds[2:], (("yin", ((0, 1), (3, 2)), ((0, ("set", 2)), (3, ("copy", 3)))),))

    def test_places_that_descend(self):
        inner = Machine([("p", 2), ("q", 2), ("r", 2)],
                        [("in", ((0, 1), (1, 2), (2, 3)), ((0, ("copy", 1)), (1, ("set", 0)), (2, ("copy", 0))))],
                        (1, 1, 1))
        machine = inside(simple(4), inner, [3, 2, 0], ((1, 2),))
        self.assertEqual(machine.deeds, (("yin", ((0, 3), (1, 2), (2, 2), (3, 1)),
                                          ((0, ("copy", 3)), (2, ("set", 0)), (3, ("copy", 2)))),))

    def test_all_cells_are_places(self):
        machine = inside(samples.swapping(), samples.swapping(), [1, 0], ())
        self.assertEqual(machine.deeds, (("xswap", ((0, 1),), ((0, ("copy", 1)), (1, ("copy", 0)))),
                                         ("yswap", ((1, 1),), ((0, ("copy", 1)), (1, ("copy", 0))))))

    def test_the_first_disks_of_the_inner_machine_have_no_meaning(self):
        for first in ((1, 1, 1), (4, 2, 7)):
            inner = inner_machine()
            other = Machine(inner.cells, inner.deeds, first)
            self.assertEqual(parts(inside(outer_machine(), other, PLACES, GUARD)),
                             parts(inside(outer_machine(), inner, PLACES, GUARD)))

    def refused(self, places=tuple(PLACES), guard=GUARD, outer=None, inner=None):
        with self.subTest(places=places, guard=guard), self.assertRaises(InvalidMachine):
            inside(outer or outer_machine(), inner or inner_machine(), list(places), guard)

    def test_a_place_too_many_or_too_few(self):
        for places in ([], [4], [4, 1], [4, 1, 0, 3], [4, 1, 0, 0], [4, 1, 0, 2]):
            self.refused(places)

    def test_a_place_twice(self):
        self.refused([4, 1, 4])
        self.refused([0, 1, 0])
        self.refused([0, 0], (), simple(3), simple(2))
        inside(simple(3), simple(2), [0, 1], ())

    def test_a_place_out_of_range(self):
        for places in ([5, 1, 0], [4, -1, 0], [4, 1, -5], [-1, 1, 0], [4, 1, 24]):
            self.refused(places)
        self.refused([2], (), simple(2), simple(1))
        self.refused([-1], (), simple(2), simple(1))
        inside(simple(2), simple(1), [1], ())

    def test_a_place_of_another_size(self):
        for places in ([2, 1, 0], [4, 0, 1], [4, 2, 0], [1, 4, 0], [4, 1, 3]):
            self.refused(places, ())
        for size in (1, 3):
            self.refused([0], (), simple(1), simple(1, size))

    def test_a_guard_on_a_place(self):
        for guard in (((0, 1),), ((1, 1),), ((4, 1),), ((1, 1), (3, 1)), ((3, 1), (4, 7))):
            self.refused(PLACES, guard)

    def test_a_guard_out_of_order(self):
        for guard in (((3, 1), (2, 1)), ((3, 1), (3, 1)), ((2, 1), (2, 2)), ((2, 1), (3, 1), (2, 1))):
            self.refused(PLACES, guard)
        inside(outer_machine(), inner_machine(), PLACES, ((2, 1), (3, 1)))

    def test_a_guard_with_a_wrong_mask(self):
        for guard in (((2, 0),), ((2, 16),), ((3, 4),), ((3, -1),), ((2, 1), (3, 0)), ((2, 17), (3, 1))):
            self.refused(PLACES, guard)
        for guard in (((2, 15),), ((3, 3),), ((2, 1), (3, 3))):
            inside(outer_machine(), inner_machine(), PLACES, guard)

    def test_a_guard_with_a_wrong_cell(self):
        for guard in (((5, 1),), ((-1, 1),), ((-3, 1),), ((2, 1), (5, 1)), ((24, 1),)):
            self.refused(PLACES, guard)

    def test_too_many_deeds(self):
        def machine(many):
            return simple(1, 2, [(f"d{number}", (), ()) for number in range(many)])

        for outer, inner in ((400, 0), (0, 400), (200, 200), (399, 1)):
            self.assertEqual(len(inside(machine(outer), machine(inner), [0], ()).deeds), 400)
        for outer, inner in ((400, 1), (1, 400), (201, 200), (400, 400)):
            self.refused([0], (), machine(outer), machine(inner))

    def test_names_of_11_and_12_characters(self):
        small = simple(1, 2, [("go", (), ())])
        eleven, twelve = (simple(1, 2, [(name, (), ())]) for name in ("abcdefghijk", "abcdefghijkl"))
        for outer, inner in ((eleven, small), (small, eleven), (eleven, eleven)):
            self.assertEqual(len(inside(outer, inner, [0], ()).deeds), 2)
        for outer, inner in ((twelve, small), (small, twelve), (twelve, simple(1)), (simple(1), twelve)):
            self.refused([0], (), outer, inner)

    def test_names_of_cells_stay_as_they_are(self):
        long = Machine([("abcdefghijkl", 2)], [], (1,))
        self.assertEqual(inside(long, long, [0], ()).cells, (("abcdefghijkl", 2),))

    def test_what_was_passed_stays_as_it_was(self):
        outer, inner, places = outer_machine(), inner_machine(), list(PLACES)
        kept = parts(outer), parts(inner)
        found = parts(inside(outer, inner, places, GUARD))
        self.assertEqual((parts(outer), parts(inner), places), (*kept, PLACES))
        self.assertEqual(parts(inside(outer, inner, places, GUARD)), found)
        inner_sketch(outer, inner, places, (7, 3, 7))
        self.assertEqual(places, PLACES)

    def test_the_deeds_of_many_machines(self):
        dice = random.Random(61)
        for _ in range(150):
            outer, inner, places, guard = random_pair(dice)
            machine = inside(outer, inner, places, guard)
            for disk in samples.disks_of(outer):
                self.assertEqual(samples.steps_of(machine, disk), plain_steps(outer, inner, places, guard, disk))

    def test_telling_of_the_machine_inside(self):
        dice = random.Random(610)
        answers = {True: 0, False: 0}
        for _ in range(400):
            outer, inner, places, guard = random_pair(dice)
            machine = inside(outer, inner, places, guard)
            image, piece = samples.random_question(dice, machine)
            piece = piece + [inner_sketch(outer, inner, places, samples.random_sketch(dice, inner.full))]
            ends = set()
            waiting = [disk for disk in samples.disks_in(outer.first) if not samples.is_in_some(disk, piece)]
            while waiting:
                disk = waiting.pop()
                if disk not in ends and not samples.is_in_some(disk, piece):
                    ends.add(disk)
                    waiting.extend(plain_steps(outer, inner, places, guard, disk))
            answer = tell(machine, image, piece)
            self.assertIs(answer.told, not any(samples.is_in(disk, image) for disk in ends))
            answers[answer.told] += 1
            if answer.told:
                self.assertIs(judge_paper(machine, image, piece, answer.paper), True)
            else:
                self.assertIs(judge_history(machine, image, piece, answer.disk, answer.deeds), True)
        self.assertGreater(min(answers.values()), 20)


class InnerSketches(unittest.TestCase):
    """Point 61: inner_sketch."""

    def test_each_place_has_the_mask_of_its_cell(self):
        outer, inner = outer_machine(), inner_machine()
        self.assertEqual(inner_sketch(outer, inner, PLACES, (5, 2, 1)), (1, 2, 15, 3, 5))
        self.assertEqual(inner_sketch(outer, inner, [0, 3, 4], (5, 2, 1)), (5, 3, 15, 2, 1))
        self.assertEqual(inner_sketch(outer, inner, PLACES, inner.full), outer.full)
        self.assertIsInstance(inner_sketch(outer, inner, PLACES, (5, 2, 1)), tuple)

    def test_wrong_sketches(self):
        for wrong in ((), (7, 3), (7, 3, 7, 7), (0, 3, 7), (8, 3, 7), (7, 4, 7), (7, 3, 8), (7, -1, 7),
                      (7, 3, 15, 3, 7)):
            with self.subTest(wrong), self.assertRaises(InvalidSketch):
                inner_sketch(outer_machine(), inner_machine(), PLACES, wrong)


if __name__ == "__main__":
    unittest.main()
