"""Points 31 and 62 to 64, and the heading raisedwreck/stripes.py."""

import itertools
import random
import unittest

from raisedwreck.errors import InvalidFile, InvalidForm, NoRoom
from raisedwreck.machines import Machine
from raisedwreck.machinetext import format_machine
from raisedwreck.stripes import StripeForm, stripe_begin, stripe_end, stripe_machine, stripe_rebuild
from raisedwreck.timelines import told_at_end
from tests import families, samples

NAMES = ["d0", "d1", "p", "w"]

SMALL = """cell d0 2
cell d1 2
cell p 2
cell w 3
first d0 0
first d1 0
first p 0
first w 0
deed b00
when w 0
set d0 0
set w 1
deed b01
when w 0
set d0 1
set w 1
deed b10
when w 0
set d1 0
set w 2
deed b11
when w 0
set d1 1
set w 2
deed e00
when d0 0
when d1 0
when w 1 2
set p 0
set w 0
deed e01
when d0 0
when d1 1
when w 1 2
set p 1
set w 0
deed e10
when d0 1
when d1 0
when w 1 2
set p 1
set w 0
deed e11
when d0 1
when d1 1
when w 1 2
set p 0
set w 0
deed r000
when d1 0
when p 0
when w 0
set d0 0
deed r001
when d1 0
when p 1
when w 0
set d0 1
deed r010
when d1 1
when p 0
when w 0
set d0 1
deed r011
when d1 1
when p 1
when w 0
set d0 0
deed r100
when d0 0
when p 0
when w 0
set d1 0
deed r101
when d0 0
when p 1
when w 0
set d1 1
deed r110
when d0 1
when p 0
when w 0
set d1 1
deed r111
when d0 1
when p 1
when w 0
set d1 0
"""


class Model:
    """A disk of a form, with a dict for the data."""

    def __init__(self, many):
        self.many = many
        self.data = {0: 0, 1: 0}
        self.parity = 0
        self.written = None

    def disk(self):
        return (self.data[0], self.data[1], self.parity, 0 if self.written is None else 1 + self.written)

    def begin(self, number, value):
        if self.written is not None:
            return NoRoom
        self.data[number] = value
        self.written = number
        return self.disk()

    def end(self):
        if self.written is None:
            return NoRoom
        self.parity = sum(self.data.values())
        while self.parity >= self.many:
            self.parity -= self.many
        self.written = None
        return self.disk()

    def rebuild(self, number):
        if self.written is not None:
            return NoRoom
        for value in range(self.many):
            if (value + self.data[1 - number]) % self.many == self.parity:
                self.data[number] = value
                return self.disk()
        raise AssertionError("no value has this parity")


def all_steps(many):
    """All steps: the beginning of the name of the deed, and calls for a disk and for a model."""
    steps = [(f"b{number}{value}", stripe_begin, "begin", (number, value))
             for number in range(2) for value in range(many)]
    return steps + [("e", stripe_end, "end", ()), ("r0", stripe_rebuild, "rebuild", (0,)),
                    ("r1", stripe_rebuild, "rebuild", (1,))]


def plain_deeds(many):
    """The deeds in their order, from the words of point 63."""
    deeds = []
    for number, value in itertools.product((0, 1), range(many)):
        deeds.append(families.deed_of(NAMES, f"b{number}{value}", {"w": [0]}, {f"d{number}": value, "w": 1 + number}))
    for pair in itertools.product(range(many), repeat=2):
        deeds.append(families.deed_of(NAMES, "e" + families.digits(pair), {"d0": pair[:1], "d1": pair[1:], "w": [1, 2]},
                                      {"p": sum(pair) % many, "w": 0}))
    for number, other, parity in itertools.product((0, 1), range(many), range(many)):
        data = next(value for value in range(many) if (value + other) % many == parity)
        deeds.append(families.deed_of(NAMES, f"r{number}{other}{parity}",
                                      {f"d{1 - number}": [other], "p": [parity], "w": [0]}, {f"d{number}": data}))
    return deeds


class Forms(unittest.TestCase):
    """Points 31 and 62: which forms there are."""

    def test_all_numbers(self):
        rows = [(alphabet,) for alphabet in range(-2, 20)]
        forms = families.check_forms(self, StripeForm, rows, lambda alphabet: 2 <= alphabet <= 5)
        self.assertEqual([form.alphabet for form in forms], [2, 3, 4, 5])
        with self.assertRaises(InvalidForm):
            StripeForm(10 ** 9)


class Machines(unittest.TestCase):
    """Points 62 and 63: the machine of a form."""

    def test_a_machine_as_text(self):
        self.assertEqual(format_machine(stripe_machine(StripeForm(2))), SMALL)

    def test_all_machines(self):
        for alphabet in range(2, 6):
            machine = stripe_machine(StripeForm(alphabet))
            self.assertIsInstance(machine, Machine)
            cells = [("d0", alphabet), ("d1", alphabet), ("p", alphabet), ("w", 3)]
            families.check_machine(self, machine, cells, plain_deeds(alphabet), (1, 1, 1, 1))
            self.assertEqual(len(machine.deeds), 2 * alphabet + 3 * alphabet ** 2)

    def test_some_deeds_of_the_largest_machine(self):
        machine = stripe_machine(StripeForm(5))
        deeds = {deed[0]: deed for deed in machine.deeds}
        self.assertEqual(deeds["b14"], ("b14", ((3, 1),), ((1, ("set", 4)), (3, ("set", 2)))))
        self.assertEqual(deeds["e34"], ("e34", ((0, 8), (1, 16), (3, 6)), ((2, ("set", 2)), (3, ("set", 0)))))
        self.assertEqual(deeds["r041"], ("r041", ((1, 16), (2, 2), (3, 1)), ((0, ("set", 2)),)))
        self.assertEqual(deeds["r120"], ("r120", ((0, 4), (2, 1), (3, 1)), ((1, ("set", 3)),)))


class Steps(unittest.TestCase):
    """Points 63 and 64: the functions that work on a disk."""

    def test_one_step_after_the_other(self):
        form = StripeForm(3)
        disk = stripe_begin(form, (0, 0, 0, 0), 1, 2)
        self.assertEqual(disk, (0, 2, 0, 2))
        disk = stripe_end(form, disk)
        self.assertEqual(disk, (0, 2, 2, 0))
        disk = stripe_begin(form, disk, 0, 2)
        self.assertEqual(disk, (2, 2, 2, 1))
        disk = stripe_end(form, disk)
        self.assertEqual(disk, (2, 2, 1, 0))
        self.assertEqual(stripe_rebuild(form, (0, 2, 1, 0), 0), disk)
        self.assertEqual(stripe_rebuild(form, (2, 1, 1, 0), 1), disk)
        self.assertEqual(stripe_rebuild(form, disk, 1), disk)

    def test_the_condition_on_the_work(self):
        form = StripeForm(2)
        for work in (0, 1, 2):
            disk = (1, 0, 1, work)
            for function, arguments, holds in ((stripe_begin, (0, 0), work == 0), (stripe_begin, (1, 1), work == 0),
                                               (stripe_end, (), work != 0), (stripe_rebuild, (0,), work == 0),
                                               (stripe_rebuild, (1,), work == 0)):
                with self.subTest(disk=disk, function=function, arguments=arguments):
                    found = families.result_of(function, form, disk, *arguments)
                    if holds:
                        self.assertIsInstance(found, tuple)
                    else:
                        self.assertIs(found, NoRoom)

    def test_wrong_numbers_and_values_come_first(self):
        for alphabet in (2, 5):
            form = StripeForm(alphabet)
            for work in (0, 1, 2):
                disk = (0, 1, 0, work)
                for number, value in ((2, 0), (-1, 0), (0, alphabet), (1, -1), (2, alphabet), (10 ** 9, 0), (0, 10 ** 9)):
                    with self.subTest(disk=disk, number=number, value=value), self.assertRaises(InvalidFile):
                        stripe_begin(form, disk, number, value)
                for number in (2, -1, 3, 10 ** 9):
                    with self.subTest(disk=disk, number=number), self.assertRaises(InvalidFile):
                        stripe_rebuild(form, disk, number)

    def test_long_runs(self):
        dice = random.Random(63)
        for alphabet in range(2, 6):
            form = StripeForm(alphabet)
            machine = stripe_machine(form)
            model, disk = Model(alphabet), (0, 0, 0, 0)
            refused = 0
            for _ in range(500):
                name, function, word, arguments = dice.choice(all_steps(alphabet))
                # Half of the disks that are to be rebuilt are lost before.
                if word == "rebuild" and disk[3] == 0 and dice.random() < 0.5:
                    lost = list(disk)
                    lost[arguments[0]] = dice.randrange(alphabet)
                    disk, model.data[arguments[0]] = tuple(lost), lost[arguments[0]]
                found = families.result_of(function, form, disk, *arguments)
                self.assertEqual(found, getattr(model, word)(*arguments))
                after = families.disks_after(machine, disk, lambda other: other.startswith(name))
                self.assertEqual(after, [found] if isinstance(found, tuple) else [])
                if isinstance(found, tuple):
                    disk = found
                else:
                    refused += 1
                if disk[3] == 0:
                    self.assertEqual(disk[2], (disk[0] + disk[1]) % alphabet)
            self.assertTrue(50 < refused < 450)

    def test_every_deed_on_every_disk_is_one_function(self):
        for alphabet in (2, 3):
            form = StripeForm(alphabet)
            machine = stripe_machine(form)
            for disk in samples.disks_of(machine):
                found = [families.result_of(function, form, disk, *arguments)
                         for _, function, _, arguments in all_steps(alphabet)]
                done = [new for new in found if isinstance(new, tuple)]
                self.assertEqual(sorted(done), sorted(samples.steps_of(machine, disk)))


class LostDisks(unittest.TestCase):
    """Point 64."""

    def test_the_parity_is_the_sum_if_no_work_is_left(self):
        for alphabet in range(2, 6):
            reached = samples.reached(stripe_machine(StripeForm(alphabet)))
            finished = {disk for disk in reached if disk[3] == 0}
            self.assertEqual(finished, {(a, b, (a + b) % alphabet, 0) for a in range(alphabet) for b in range(alphabet)})
            self.assertGreater(len(reached), len(finished))

    def test_a_lost_disk_is_told_at_the_end_if_the_work_is_known_to_be_done(self):
        for alphabet in (2, 3, 5):
            machine = stripe_machine(StripeForm(alphabet))
            full = machine.full
            for disk in samples.reached(machine):
                image = tuple(1 << value for value in disk)
                for lost in range(3):
                    unread = image[:lost] + (full[lost],) + image[lost + 1:]
                    piece = [full[:lost] + (image[lost],) + full[lost + 1:]]
                    told = told_at_end(machine, unread, piece)
                    if disk[3] == 0:
                        self.assertIs(told, True)
                    # If the work cannot be read, another value may have been written, too.
                    self.assertIs(told_at_end(machine, unread[:3] + (7,), piece), False)

    def test_telling(self):
        form = StripeForm(3)
        machine = stripe_machine(form)
        pieces = [[tuple(1 << value if cell == at else most for cell, most in enumerate(machine.full))]
                  for at in range(3) for value in range(3)]
        families.check_telling(self, machine, pieces, random.Random(64), 60)


class Calls(unittest.TestCase):
    """Points 2 and 4."""

    def test_forms_stay_as_they_are_and_two_calls_agree(self):
        form = StripeForm(3)
        one, other = stripe_machine(form), stripe_machine(StripeForm(3))
        self.assertEqual((one.cells, one.deeds, one.first), (other.cells, other.deeds, other.first))
        self.assertIsInstance(stripe_begin(form, (0, 0, 0, 0), 0, 1), tuple)
        self.assertEqual(stripe_begin(form, (0, 0, 0, 0), 0, 1), stripe_begin(form, (0, 0, 0, 0), 0, 1))
        self.assertEqual(vars(form), vars(StripeForm(3)))


if __name__ == "__main__":
    unittest.main()
