"""Points 31 and 39 to 41, and the heading raisedwreck/logs.py."""

import itertools
import random
import unittest

from raisedwreck.errors import InvalidFile, InvalidForm
from raisedwreck.logs import LogForm, log_files, log_machine, log_piece, log_put, log_record, log_remove
from raisedwreck.machinetext import format_machine
from raisedwreck.sketches import has_piece
from tests import families, samples

SMALL = """cell h 2
cell r0 5
cell r1 5
first h 0
first r0 0
first r1 0
deed p000
when h 0
set h 1
set r0 1
deed x00
when h 0
set h 1
set r0 2
deed p010
when h 0
set h 1
set r0 3
deed x01
when h 0
set h 1
set r0 4
deed p100
when h 1
set h 0
set r1 1
deed x10
when h 1
set h 0
set r1 2
deed p110
when h 1
set h 0
set r1 3
deed x11
when h 1
set h 0
set r1 4
"""

ONE_SLOT = """cell h 1
cell r0 3
first r0 0
deed p000
when h 0
set h 0
set r0 1
deed x00
when h 0
set h 0
set r0 2
"""


def is_right(files, slots, alphabet):
    return (1 <= files <= 3 and 1 <= slots <= 5 and 1 <= alphabet <= 4) and 1 + files * (alphabet + 1) <= 16


def all_forms():
    """All forms of the family."""
    rows = itertools.product(range(1, 4), range(1, 6), range(1, 5))
    return [LogForm(*row) for row in rows if is_right(*row)]


def meanings(form):
    """What each value of a record says: a pair of a file and its value, or of a file and None."""
    found = [None]
    for file in range(form.files):
        found += [(file, value) for value in range(form.alphabet)] + [(file, None)]
    return found


def plain_cells(form):
    return [("h", form.slots)] + [(f"r{slot}", len(meanings(form))) for slot in range(form.slots)]


def plain_deeds(form):
    """The deeds of the machine of a form, word by word as points 39 and 40 say."""
    names = [name for name, _ in plain_cells(form)]
    deeds = []
    for slot in range(form.slots):
        for record, meaning in enumerate(meanings(form)):
            if meaning is not None:
                file, value = meaning
                name = f"x{slot}{file}" if value is None else f"p{slot}{file}{value}"
                changes = {"h": slot + 1 if slot + 1 < form.slots else 0, f"r{slot}": record}
                deeds.append(families.deed_of(names, name, {"h": [slot]}, changes))
    return deeds


def plain_files(form, disk):
    """What the files have on a disk, slot by slot before the head."""
    head, records = disk[0], disk[1:]
    known = {}
    for record in records[head:] + records[:head]:
        # From the oldest record to the youngest one, which is kept.
        if record:
            file, value = meanings(form)[record]
            known[file] = value
    return [(file, value) for file, value in sorted(known.items()) if value is not None]


class Forms(unittest.TestCase):
    """Points 31 and 39: which forms there are."""

    def test_all_numbers_from_one_below_to_one_above(self):
        rows = itertools.product(range(5), range(7), range(6))
        forms = families.check_forms(self, LogForm, rows, is_right)
        self.assertEqual(len(forms), 60)

    def test_numbers_far_outside(self):
        for row in ((-1, 1, 1), (1, -1, 1), (1, 1, -1), (10 ** 9, 1, 1), (1, 10 ** 9, 1), (1, 1, 10 ** 9)):
            with self.subTest(row), self.assertRaises(InvalidForm):
                LogForm(*row)

    def test_at_sixteen_values_of_a_record(self):
        self.assertEqual(log_machine(LogForm(3, 5, 4)).cells[1], ("r0", 16))
        for row in ((3, 1, 5), (4, 1, 3), (4, 1, 4)):
            with self.subTest(row), self.assertRaises(InvalidForm):
                LogForm(*row)

    def test_attributes(self):
        form = LogForm(2, 5, 3)
        self.assertEqual((form.files, form.slots, form.alphabet), (2, 5, 3))


class Machines(unittest.TestCase):
    """Points 39 and 40: the machine of a form."""

    def test_the_example(self):
        form = LogForm(2, 2, 2)
        self.assertEqual((log_machine(form).deeds[1], log_files(form, log_put(form, (1, 0, 0), 1, 0))),
                         (("p001", ((0, 1),), ((0, ("set", 1)), (1, ("set", 2)))), [(1, 0)]))

    def test_small_machines_as_text(self):
        self.assertEqual(format_machine(log_machine(LogForm(2, 2, 1))), SMALL)
        self.assertEqual(format_machine(log_machine(LogForm(1, 1, 1))), ONE_SLOT)

    def test_the_order_of_the_names(self):
        names = [name for name, _, _ in log_machine(LogForm(2, 2, 2)).deeds]
        self.assertEqual(names, ["p000", "p001", "x00", "p010", "p011", "x01",
                                 "p100", "p101", "x10", "p110", "p111", "x11"])

    def test_all_machines(self):
        for form in all_forms():
            cells = plain_cells(form)
            families.check_machine(self, log_machine(form), cells, plain_deeds(form), (1,) * len(cells))


class Files(unittest.TestCase):
    """Points 31, 40 and 41: the functions that work on a disk."""

    def test_records_are_written_at_the_head(self):
        form = LogForm(2, 3, 2)
        disk = log_put(form, (0, 0, 0, 0), 1, 1)
        self.assertEqual(disk, (1, 5, 0, 0))
        disk = log_remove(form, disk, 0)
        self.assertEqual(disk, (2, 5, 3, 0))
        disk = log_put(form, disk, 0, 0)
        self.assertEqual(disk, (0, 5, 3, 1))
        self.assertEqual(log_files(form, disk), [(0, 0), (1, 1)])
        disk = log_remove(form, disk, 1)
        self.assertEqual(disk, (1, 6, 3, 1))
        self.assertEqual(log_files(form, disk), [(0, 0)])

    def test_an_old_record_is_lost(self):
        form = LogForm(2, 2, 1)
        disk = log_put(form, (0, 0, 0), 0, 0)
        for _ in range(2):
            self.assertIn((0, 0), log_files(form, disk))
            disk = log_put(form, disk, 1, 0)
        self.assertEqual(log_files(form, disk), [(1, 0)])

    def test_a_file_without_a_value_may_be_removed(self):
        form = LogForm(1, 1, 1)
        self.assertEqual(log_remove(form, (0, 0), 0), (0, 2))
        self.assertEqual(log_files(form, (0, 2)), [])
        self.assertEqual(log_files(form, (0, 0)), [])

    def test_the_youngest_record_of_a_file_counts(self):
        form = LogForm(1, 2, 2)
        self.assertEqual(log_files(form, (0, 1, 2)), [(0, 1)])
        self.assertEqual(log_files(form, (1, 1, 2)), [(0, 0)])
        self.assertEqual(log_files(form, (0, 1, 3)), [])
        self.assertEqual(log_files(form, (1, 1, 3)), [(0, 0)])

    def test_all_disks(self):
        for form in (LogForm(1, 3, 2), LogForm(2, 2, 2), LogForm(3, 2, 1), LogForm(2, 3, 1), LogForm(1, 1, 4)):
            for disk in samples.disks_of(log_machine(form)):
                self.assertEqual(log_files(form, disk), plain_files(form, disk))

    def test_wrong_files_and_values(self):
        form = LogForm(2, 2, 2)
        for file, value in ((2, 0), (-1, 0), (10 ** 9, 0), (0, 2), (0, -1), (1, 10 ** 9), (2, 2)):
            with self.subTest(file=file, value=value):
                self.assertIs(families.result_of(log_put, form, (0, 0, 0), file, value), InvalidFile)
                self.assertIs(families.result_of(log_piece, form, file, value), InvalidFile)
                self.assertIs(families.result_of(log_record, form, file, value), InvalidFile)
        for file in (2, -1, 10 ** 9):
            self.assertIs(families.result_of(log_remove, form, (0, 0, 0), file), InvalidFile)

    def test_long_runs(self):
        dice = random.Random(40)
        for form in (LogForm(3, 5, 4), LogForm(2, 3, 2), LogForm(1, 1, 1), LogForm(3, 2, 1), LogForm(1, 4, 3)):
            machine = log_machine(form)
            disk = (0,) * len(machine.cells)
            records = []
            for _ in range(300):
                file, value = dice.randrange(form.files), dice.randrange(form.alphabet)
                if dice.random() < 0.3:
                    value = None
                    new, end = log_remove(form, disk, file), f"{file}"
                else:
                    new, end = log_put(form, disk, file, value), f"{file}{value}"
                begin = "x" if value is None else "p"
                self.assertEqual(families.disks_after(machine, disk, lambda name: name[0] == begin and name[2:] == end),
                                 [new])
                disk = new
                records.append((file, value))
                known = dict(records[-form.slots:])
                expected = [(file, value) for file, value in sorted(known.items()) if value is not None]
                self.assertEqual(log_files(form, disk), expected)

    def test_every_deed_on_every_disk_is_one_function(self):
        for form in (LogForm(2, 2, 1), LogForm(1, 3, 2)):
            machine = log_machine(form)
            for disk in samples.reached(machine):
                found = [log_put(form, disk, file, value)
                         for file in range(form.files) for value in range(form.alphabet)]
                found += [log_remove(form, disk, file) for file in range(form.files)]
                self.assertEqual(sorted(found), sorted(samples.steps_of(machine, disk)))


class Pieces(unittest.TestCase):
    """The functions log_piece and log_record."""

    def test_sketch_by_sketch(self):
        self.assertEqual(log_piece(LogForm(1, 2, 1), 0, 0), [(1, 7, 2), (1, 2, 1), (2, 2, 7), (2, 1, 2)])
        self.assertEqual(log_piece(LogForm(2, 2, 2), 1, 0), [(1, 127, 16), (1, 16, 15), (2, 16, 127), (2, 15, 16)])
        self.assertEqual(log_piece(LogForm(2, 3, 1), 0, 0), [
            (1, 31, 31, 2), (1, 31, 2, 25), (1, 2, 25, 25), (2, 2, 31, 31), (2, 25, 31, 2), (2, 25, 2, 25),
            (4, 31, 2, 31), (4, 2, 25, 31), (4, 25, 25, 2)])
        self.assertEqual(log_piece(LogForm(1, 1, 2), 0, 1), [(1, 4)])

    def test_records_sketch_by_sketch(self):
        self.assertEqual(log_record(LogForm(2, 2, 2), 1, 0), [(3, 16, 127), (3, 127, 16)])
        self.assertEqual(log_record(LogForm(1, 3, 1), 0, 0), [(7, 2, 7, 7), (7, 7, 2, 7), (7, 7, 7, 2)])
        self.assertEqual(log_record(LogForm(1, 1, 2), 0, 1), [(1, 4)])

    def test_on_all_disks(self):
        for form in (LogForm(1, 3, 2), LogForm(2, 2, 2), LogForm(3, 2, 1), LogForm(2, 3, 1), LogForm(1, 1, 4)):
            machine = log_machine(form)
            reached = samples.reached(machine)
            for file, value in itertools.product(range(form.files), range(form.alphabet)):
                piece, recorded = log_piece(form, file, value), log_record(form, file, value)
                self.assertEqual(len(piece), form.slots ** 2)
                for disk in samples.disks_of(machine):
                    self.assertIs(has_piece(piece, disk), (file, value) in log_files(form, disk))
                    is_there = any(meanings(form)[record] == (file, value) for record in disk[1:])
                    self.assertIs(has_piece(recorded, disk), is_there)
                self.assertTrue(any(has_piece(piece, disk) for disk in reached))

    def test_telling(self):
        dice = random.Random(41)
        for form in (LogForm(2, 2, 1), LogForm(1, 3, 2)):
            pieces = [make(form, file, value) for make in (log_piece, log_record)
                      for file in range(form.files) for value in range(form.alphabet)]
            families.check_telling(self, log_machine(form), pieces, dice, 60)


class Calls(unittest.TestCase):
    """Points 2 and 4."""

    def test_lists_are_new_and_forms_stay_as_they_are(self):
        form = LogForm(2, 3, 2)
        kept = dict(vars(form))
        disk = log_put(form, (0,) * 4, 0, 1)
        for function, arguments in ((log_files, (disk,)), (log_piece, (0, 1)), (log_record, (0, 1))):
            first, second = function(form, *arguments), function(form, *arguments)
            self.assertIsInstance(first, list)
            self.assertEqual(first, second)
            first.clear()
            self.assertEqual(function(form, *arguments), second)
        one, other = log_machine(form), log_machine(LogForm(2, 3, 2))
        self.assertEqual((one.cells, one.deeds, one.first), (other.cells, other.deeds, other.first))
        self.assertEqual(vars(form), kept)


if __name__ == "__main__":
    unittest.main()
