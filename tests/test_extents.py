"""Points 31, 32 and 36 to 38, and the heading raisedwreck/extents.py."""

import itertools
import random
import unittest

from raisedwreck.errors import InvalidFile, InvalidForm, NoRoom, NoSuchFile
from raisedwreck.extents import (ExtentForm, extent_delete, extent_files, extent_machine, extent_overwrite,
                                 extent_piece, extent_write)
from raisedwreck.machinetext import format_machine
from raisedwreck.sketches import has_piece
from tests import families, samples

SMALL = """cell d0 7
cell u0 2
cell u1 2
cell c0 1
cell c1 1
first d0 0
first u0 0
first u1 0
deed w0r0m00c0
when d0 0 4 5 6
when u0 0
when u1 0
set d0 1
set u0 1
set c0 0
deed w0r0m01c0
when d0 0 4 5 6
when u0 0
when u1 1
set d0 1
set u0 1
set c0 0
deed w0r1m00c00
when d0 0 4 5 6
when u0 0
when u1 0
set d0 2
set u0 1
set u1 1
set c0 0
set c1 0
deed w0r2m10c0
when d0 0 4 5 6
when u0 1
when u1 0
set d0 3
set u1 1
set c1 0
deed o0r0c0
when d0 1
set c0 0
deed o0r1c00
when d0 2
set c0 0
set c1 0
deed o0r2c0
when d0 3
set c1 0
deed e0r0
when d0 1
set d0 4
set u0 0
deed e0r1
when d0 2
set d0 5
set u0 0
set u1 0
deed e0r2
when d0 3
set d0 6
set u1 0
"""


def runs_of(blocks, longest):
    return sorted((block, length) for length in range(1, longest + 1) for block in range(blocks - length + 1))


def all_marks(blocks):
    return list(itertools.product((0, 1), repeat=blocks))


def taken(marks, length):
    """The run of a length that is taken, or None."""
    at = families.digits(marks).find("0" * length)
    return None if at < 0 else (at, length)


def is_right(files, blocks, alphabet, longest):
    if not (1 <= files <= 3 and 1 <= blocks <= 5 and 1 <= alphabet <= 3 and 1 <= longest <= min(3, blocks)):
        return False
    runs = runs_of(blocks, longest)
    if len(runs) > 7 or len("w0r0m" + "0" * blocks + "c" + "0" * longest) > 12:
        return False
    writing = sum(alphabet ** length for length in range(1, longest + 1)
                  for marks in all_marks(blocks) if taken(marks, length))
    return files * (writing + sum(alphabet ** length + 1 for _, length in runs)) <= 400


def all_forms():
    """All forms of the family."""
    rows = itertools.product(range(1, 4), range(1, 6), range(1, 4), range(1, 4))
    return [ExtentForm(*row) for row in rows if is_right(*row)]


def all_contents(form):
    return [contents for length in range(1, form.longest + 1)
            for contents in itertools.product(range(form.alphabet), repeat=length)]


def contents_values(run, contents):
    return {f"c{run[0] + at}": value for at, value in enumerate(contents)}


def mark_values(run, mark):
    return {f"u{run[0] + at}": mark for at in range(run[1])}


def plain_cells(form):
    return ([(f"d{file}", 1 + 2 * len(runs_of(form.blocks, form.longest))) for file in range(form.files)]
            + [(f"u{block}", 2) for block in range(form.blocks)]
            + [(f"c{block}", form.alphabet) for block in range(form.blocks)])


def plain_deeds(form):
    """The deeds of the machine of a form, word by word as points 37 and 38 say."""
    names = [name for name, _ in plain_cells(form)]
    runs = runs_of(form.blocks, form.longest)
    fills = [(number, run, contents) for number, run in enumerate(runs)
             for contents in itertools.product(range(form.alphabet), repeat=run[1])]
    deeds = []
    for file in range(form.files):
        for number, run in enumerate(runs):
            for marks in all_marks(form.blocks):
                for _, _, contents in [fill for fill in fills if fill[0] == number and taken(marks, run[1]) == run]:
                    guard = {f"u{block}": [mark] for block, mark in enumerate(marks)}
                    guard[f"d{file}"] = [0, *range(1 + len(runs), 1 + 2 * len(runs))]
                    changes = {f"d{file}": 1 + number, **mark_values(run, 1), **contents_values(run, contents)}
                    name = f"w{file}r{number}m{families.digits(marks)}c{families.digits(contents)}"
                    deeds.append(families.deed_of(names, name, guard, changes))
        for number, run, contents in fills:
            name = f"o{file}r{number}c{families.digits(contents)}"
            deeds.append(families.deed_of(names, name, {f"d{file}": [1 + number]}, contents_values(run, contents)))
        for number, run in enumerate(runs):
            changes = {f"d{file}": 1 + len(runs) + number, **mark_values(run, 0)}
            deeds.append(families.deed_of(names, f"e{file}r{number}", {f"d{file}": [1 + number]}, changes))
    return deeds


class Model:
    """A disk of extents, kept as the runs of the live files instead of entries and marks."""

    def __init__(self, form):
        self.form = form
        self.runs = runs_of(form.blocks, form.longest)
        self.data = [0] * form.blocks
        self.live = {}
        self.former = {}

    def disk(self):
        entries = [1 + self.runs.index(self.live[file]) if file in self.live
                   else 1 + len(self.runs) + self.runs.index(self.former[file]) if file in self.former else 0
                   for file in range(self.form.files)]
        return (*entries, *self.marks(), *self.data)

    def marks(self):
        marks = [0] * self.form.blocks
        for block, length in self.live.values():
            marks[block:block + length] = [1] * length
        return marks

    def files(self):
        return [(file, tuple(self.data[block:block + length])) for file, (block, length) in sorted(self.live.items())]

    def is_file(self, file):
        return file in range(self.form.files)

    def are_contents(self, contents):
        return 1 <= len(contents) <= self.form.longest and all(x in range(self.form.alphabet) for x in contents)

    def put(self, run, contents):
        self.data[run[0]:run[0] + run[1]] = contents

    def write(self, file, contents):
        if not self.is_file(file) or not self.are_contents(contents) or file in self.live:
            return InvalidFile
        run = taken(self.marks(), len(contents))
        if run is None:
            return NoRoom
        self.live[file] = run
        self.put(run, contents)
        return self.disk()

    def overwrite(self, file, contents):
        if not self.is_file(file) or not self.are_contents(contents):
            return InvalidFile
        if file not in self.live:
            return NoSuchFile
        if len(contents) != self.live[file][1]:
            return InvalidFile
        self.put(self.live[file], contents)
        return self.disk()

    def delete(self, file):
        if not self.is_file(file):
            return InvalidFile
        if file not in self.live:
            return NoSuchFile
        self.former[file] = self.live.pop(file)
        return self.disk()


class Forms(unittest.TestCase):
    """Points 31, 36 and 37: which forms there are."""

    def test_all_numbers_from_one_below_to_one_above(self):
        rows = itertools.product(range(5), range(7), range(5), range(5))
        forms = families.check_forms(self, ExtentForm, rows, is_right)
        self.assertTrue(len(forms) > 50)

    def test_numbers_far_outside(self):
        for row in ((-1, 1, 1, 1), (1, -1, 1, 1), (1, 1, -1, 1), (1, 1, 1, -1), (10 ** 9, 1, 1, 1),
                    (1, 10 ** 9, 1, 1), (1, 1, 10 ** 9, 1), (1, 1, 1, 10 ** 9)):
            with self.subTest(row), self.assertRaises(InvalidForm):
                ExtentForm(*row)

    def test_at_seven_runs(self):
        self.assertEqual(len(ExtentForm(1, 4, 1, 2).runs), 7)
        # Five blocks would have nine runs, and so would four blocks with contents of three values.
        for row in ((1, 5, 1, 2), (1, 4, 1, 3), (1, 5, 1, 3)):
            with self.subTest(row), self.assertRaises(InvalidForm):
                ExtentForm(*row)

    def test_at_twelve_characters_of_a_name(self):
        for row in ((1, 5, 1, 1), (1, 4, 1, 2), (1, 3, 1, 3)):
            names = [name for name, _, _ in extent_machine(ExtentForm(*row)).deeds]
            self.assertEqual(max(map(len, names)), 12)
        for row in ((1, 5, 1, 2), (1, 4, 1, 3)):
            with self.subTest(row), self.assertRaises(InvalidForm):
                ExtentForm(*row)

    def test_at_400_deeds(self):
        self.assertEqual(len(extent_machine(ExtentForm(3, 5, 3, 1)).deeds), 339)
        self.assertEqual(len(extent_machine(ExtentForm(2, 4, 3, 2)).deeds), 326)
        for row in ((3, 4, 3, 2), (3, 3, 3, 3)):
            with self.subTest(row), self.assertRaises(InvalidForm):
                ExtentForm(*row)

    def test_the_longest_length_is_at_most_the_number_of_blocks(self):
        for blocks, longest in ((1, 2), (1, 3), (2, 3)):
            with self.assertRaises(InvalidForm):
                ExtentForm(1, blocks, 1, longest)
        self.assertEqual(ExtentForm(1, 2, 1, 2).longest, 2)

    def test_attributes(self):
        form = ExtentForm(2, 3, 1, 2)
        self.assertEqual((form.files, form.blocks, form.alphabet, form.longest), (2, 3, 1, 2))
        self.assertEqual(form.runs, ((0, 1), (0, 2), (1, 1), (1, 2), (2, 1)))
        self.assertEqual(ExtentForm(1, 3, 1, 3).runs, ((0, 1), (0, 2), (0, 3), (1, 1), (1, 2), (2, 1)))
        self.assertEqual(ExtentForm(1, 1, 3, 1).runs, ((0, 1),))
        for form in all_forms():
            self.assertEqual(form.runs, tuple(runs_of(form.blocks, form.longest)))


class Machines(unittest.TestCase):
    """Points 32 and 36 to 38: the machine of a form."""

    def test_the_example(self):
        form = ExtentForm(1, 2, 2, 2)
        self.assertEqual((form.runs, extent_machine(form).deeds[0]),
                         (((0, 1), (0, 2), (1, 1)), ("w0r0m00c0", ((0, 113), (1, 1), (2, 1)),
                                                     ((0, ("set", 1)), (1, ("set", 1)), (3, ("set", 0))))))

    def test_a_small_machine_as_text(self):
        self.assertEqual(format_machine(extent_machine(ExtentForm(1, 2, 1, 2))), SMALL)

    def test_the_order_of_the_names(self):
        names = [name for name, _, _ in extent_machine(ExtentForm(2, 2, 2, 2)).deeds]
        writing = ["r0m00c0", "r0m00c1", "r0m01c0", "r0m01c1", "r1m00c00", "r1m00c01", "r1m00c10", "r1m00c11",
                   "r2m10c0", "r2m10c1"]
        others = ["r0c0", "r0c1", "r1c00", "r1c01", "r1c10", "r1c11", "r2c0", "r2c1"]
        expected = []
        for file in "01":
            expected += ["w" + file + end for end in writing] + ["o" + file + end for end in others]
            expected += ["e" + file + end for end in ("r0", "r1", "r2")]
        self.assertEqual(names, expected)

    def test_all_machines(self):
        for form in all_forms():
            cells = plain_cells(form)
            families.check_machine(self, extent_machine(form), cells, plain_deeds(form), (1,) * len(cells))


class Files(unittest.TestCase):
    """Points 31 and 37: the functions that work on a disk."""

    def test_the_run_with_the_least_first_block_is_taken(self):
        form = ExtentForm(3, 4, 2, 2)
        self.assertEqual(form.runs, ((0, 1), (0, 2), (1, 1), (1, 2), (2, 1), (2, 2), (3, 1)))
        disk = extent_write(form, (0,) * 11, 0, (1,))
        disk = extent_write(form, disk, 1, (1, 0))
        self.assertEqual(disk, (1, 4, 0, 1, 1, 1, 0, 1, 1, 0, 0))
        disk = extent_delete(form, disk, 0)
        self.assertEqual(disk, (8, 4, 0, 0, 1, 1, 0, 1, 1, 0, 0))
        # Two blocks are free, but they do not lie side by side.
        self.assertIs(families.result_of(extent_write, form, disk, 2, (0, 0)), NoRoom)
        self.assertEqual(extent_write(form, disk, 2, (0,)), (8, 4, 1, 1, 1, 1, 0, 0, 1, 0, 0))
        self.assertEqual(extent_overwrite(form, disk, 1, (0, 1)), (8, 4, 0, 0, 1, 1, 0, 1, 0, 1, 0))
        self.assertEqual(extent_files(form, disk), [(1, (1, 0))])
        self.assertEqual(extent_files(form, extent_write(form, disk, 0, (1,))), [(0, (1,)), (1, (1, 0))])

    def test_no_files_at_first(self):
        self.assertEqual(extent_files(ExtentForm(2, 2, 3, 1), (0,) * 6), [])

    def test_errors_in_their_order(self):
        form = ExtentForm(2, 2, 2, 2)
        empty = (0,) * 6
        full = extent_write(form, extent_write(form, empty, 0, (1,)), 1, (1,))
        for disk in (empty, full):
            for file, contents in ((2, (0,)), (-1, (0,)), (0, ()), (0, (0, 0, 0)), (0, (2,)), (0, (-1,)), (1, (0, 2))):
                for function in (extent_write, extent_overwrite):
                    with self.subTest(disk=disk, file=file, contents=contents), self.assertRaises(InvalidFile):
                        function(form, disk, file, contents)
                with self.subTest(file=file, contents=contents), self.assertRaises(InvalidFile):
                    extent_piece(form, file, contents)
            for file in (2, -1, 10 ** 9):
                with self.assertRaises(InvalidFile):
                    extent_delete(form, disk, file)
        # The file is live, and there is no room either.
        self.assertIs(families.result_of(extent_write, form, full, 0, (0,)), InvalidFile)
        self.assertIs(families.result_of(extent_write, form, extent_delete(form, full, 0), 0, (0, 0)), NoRoom)
        self.assertIs(families.result_of(extent_overwrite, form, empty, 0, (0, 0)), NoSuchFile)
        self.assertIs(families.result_of(extent_overwrite, form, full, 0, (0, 0)), InvalidFile)
        self.assertIs(families.result_of(extent_delete, form, empty, 1), NoSuchFile)
        self.assertIs(families.result_of(extent_delete, form, extent_delete(form, full, 1), 1), NoSuchFile)

    def test_long_runs(self):
        dice = random.Random(37)
        errors = set()
        for form in (ExtentForm(3, 4, 2, 2), ExtentForm(2, 4, 3, 2), ExtentForm(3, 5, 2, 1), ExtentForm(2, 3, 3, 3),
                     ExtentForm(3, 3, 2, 3), ExtentForm(1, 1, 1, 1)):
            machine = extent_machine(form)
            disk = (0,) * len(machine.cells)
            model = Model(form)
            for _ in range(300):
                new = self.step(form, machine, model, disk, dice)
                if isinstance(new, tuple):
                    disk = new
                    self.assertEqual(extent_files(form, disk), model.files())
                else:
                    errors.add(new)
        self.assertEqual(errors, {InvalidFile, NoRoom, NoSuchFile})

    def step(self, form, machine, model, disk, dice):
        """One function with some arguments, also wrong ones: compared with the model and with the machine."""
        word = dice.choice("woe")
        file = dice.randint(-1, form.files) if dice.random() < 0.2 else dice.randrange(form.files)
        contents = dice.choice(all_contents(form))
        if dice.random() < 0.1:
            contents = contents + (dice.randint(-1, form.alphabet),)
        if word == "e":
            found, expected = families.result_of(extent_delete, form, disk, file), model.delete(file)
        elif word == "w":
            found, expected = families.result_of(extent_write, form, disk, file, contents), model.write(file, contents)
        else:
            found = families.result_of(extent_overwrite, form, disk, file, contents)
            expected = model.overwrite(file, contents)
        self.assertEqual(found, expected)
        begin, end = f"{word}{file}r", "" if word == "e" else "c" + families.digits(contents)
        after = families.disks_after(machine, disk, lambda name: name.startswith(begin) and name.endswith(end))
        self.assertEqual(after, [found] if isinstance(found, tuple) else [])
        return found

    def test_every_deed_on_every_disk_is_one_function(self):
        for form in (ExtentForm(2, 2, 2, 2), ExtentForm(1, 3, 2, 3), ExtentForm(2, 3, 1, 2)):
            machine = extent_machine(form)
            reached = samples.reached(machine)
            self.assertTrue(len(reached) > 8)
            for disk in reached:
                found = []
                for file in range(form.files):
                    found += [families.result_of(extent_write, form, disk, file, x) for x in all_contents(form)]
                    found += [families.result_of(extent_overwrite, form, disk, file, x) for x in all_contents(form)]
                    found.append(families.result_of(extent_delete, form, disk, file))
                done = [new for new in found if isinstance(new, tuple)]
                self.assertEqual(sorted(done), sorted(samples.steps_of(machine, disk)))


class Pieces(unittest.TestCase):
    """The function extent_piece."""

    def test_sketch_by_sketch(self):
        form = ExtentForm(2, 3, 2, 2)
        self.assertEqual(extent_piece(form, 1, (0, 1)), [(2047, 4, 3, 3, 3, 1, 2, 3), (2047, 16, 3, 3, 3, 3, 1, 2)])
        self.assertEqual(extent_piece(form, 0, (1,)), [(2, 2047, 3, 3, 3, 2, 3, 3), (8, 2047, 3, 3, 3, 3, 2, 3),
                                                       (32, 2047, 3, 3, 3, 3, 3, 2)])

    def test_all_pieces(self):
        for form in (ExtentForm(1, 4, 3, 2), ExtentForm(3, 3, 2, 3), ExtentForm(1, 1, 1, 1)):
            machine = extent_machine(form)
            for file in range(form.files):
                for contents in all_contents(form):
                    expected = []
                    for number, run in enumerate(runs_of(form.blocks, form.longest)):
                        if run[1] == len(contents):
                            values = {f"d{file}": 1 + number, **contents_values(run, contents)}
                            expected.append(families.sketch_of(machine, {cell: [x] for cell, x in values.items()}))
                    self.assertEqual(extent_piece(form, file, contents), expected)

    def test_on_all_disks_that_can_be_reached(self):
        for form in (ExtentForm(2, 2, 2, 2), ExtentForm(1, 3, 2, 3), ExtentForm(2, 3, 1, 2), ExtentForm(1, 2, 3, 1)):
            reached = samples.reached(extent_machine(form))
            for file in range(form.files):
                for contents in all_contents(form):
                    piece = extent_piece(form, file, contents)
                    for disk in reached:
                        self.assertIs(has_piece(piece, disk), (file, contents) in extent_files(form, disk))

    def test_telling(self):
        dice = random.Random(38)
        for form in (ExtentForm(2, 2, 2, 1), ExtentForm(1, 2, 2, 2)):
            pieces = [extent_piece(form, file, contents)
                      for file in range(form.files) for contents in all_contents(form)]
            families.check_telling(self, extent_machine(form), pieces, dice, 60)


class Calls(unittest.TestCase):
    """Points 2 and 4."""

    def test_lists_are_new_and_forms_stay_as_they_are(self):
        form = ExtentForm(2, 3, 2, 2)
        kept = dict(vars(form))
        disk = extent_write(form, (0,) * 8, 0, (1, 1))
        for function, arguments in ((extent_files, (disk,)), (extent_piece, (0, (1, 1)))):
            first, second = function(form, *arguments), function(form, *arguments)
            self.assertIsInstance(first, list)
            self.assertEqual(first, second)
            first.clear()
            self.assertEqual(function(form, *arguments), second)
        one, other = extent_machine(form), extent_machine(ExtentForm(2, 3, 2, 2))
        self.assertEqual((one.cells, one.deeds, one.first), (other.cells, other.deeds, other.first))
        self.assertEqual(vars(form), kept)


if __name__ == "__main__":
    unittest.main()
