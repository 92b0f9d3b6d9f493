"""Points 31 and 42 to 44, and the heading raisedwreck/journals.py."""

import itertools
import random
import unittest

from raisedwreck.errors import InvalidFile, InvalidForm, NoRoom
from raisedwreck.journals import (JournalForm, journal_apply, journal_commit, journal_crash, journal_done, journal_log,
                                  journal_machine, journal_piece, journal_recovered)
from raisedwreck.machinetext import format_machine
from raisedwreck.sketches import has_piece
from tests import families, samples

SMALL = """cell f0 2
cell f1 2
cell j0 2
cell j1 2
cell l0 2
cell l1 2
cell c 2
cell a0 2
cell a1 2
first f0 0
first f1 0
first j0 0
first j1 0
first l0 0
first l1 0
first c 0
first a0 0
first a1 0
deed g00
when l0 0
when c 0
set j0 0
set l0 1
deed g01
when l0 0
when c 0
set j0 1
set l0 1
deed g10
when l1 0
when c 0
set j1 0
set l1 1
deed g11
when l1 0
when c 0
set j1 1
set l1 1
deed commit
when l0 1
when l1 1
when c 0
set c 1
deed y0
when c 1
when a0 0
copy f0 j0
set a0 1
deed y1
when c 1
when a1 0
copy f1 j1
set a1 1
deed done
when c 1
when a0 1
when a1 1
set l0 0
set l1 0
set c 0
set a0 0
set a1 0
deed crash0
when c 0
set l0 0
set l1 0
set a0 0
set a1 0
deed crash1
when c 1
set a0 0
set a1 0
"""


class Model:
    """A disk of a journal, with a dict for each of its parts."""

    def __init__(self):
        self.files = {0: 0, 1: 0}
        self.journal = {0: 0, 1: 0}
        self.logged = set()
        self.applied = set()
        self.committed = False

    def disk(self):
        return (self.files[0], self.files[1], self.journal[0], self.journal[1], int(0 in self.logged),
                int(1 in self.logged), int(self.committed), int(0 in self.applied), int(1 in self.applied))

    def log(self, file, value):
        if self.committed or file in self.logged:
            return NoRoom
        self.journal[file] = value
        self.logged.add(file)
        return self.disk()

    def commit(self):
        if self.committed or len(self.logged) < 2:
            return NoRoom
        self.committed = True
        return self.disk()

    def apply(self, file):
        if not self.committed or file in self.applied:
            return NoRoom
        self.files[file] = self.journal[file]
        self.applied.add(file)
        return self.disk()

    def done(self):
        if not self.committed or len(self.applied) < 2:
            return NoRoom
        self.committed = False
        self.logged.clear()
        self.applied.clear()
        return self.disk()

    def crash(self):
        if not self.committed:
            self.logged.clear()
        self.applied.clear()
        return self.disk()


def all_steps(form):
    """All steps: the name of the deed (crash0 and crash1 are one step), and calls for a disk and for a model."""
    steps = [(f"g{file}{value}", journal_log, "log", (file, value))
             for file in range(2) for value in range(form.alphabet)]
    steps += [(f"y{file}", journal_apply, "apply", (file,)) for file in range(2)]
    return steps + [("commit", journal_commit, "commit", ()), ("done", journal_done, "done", ()),
                    ("crash", journal_crash, "crash", ())]


class Forms(unittest.TestCase):
    """Points 31 and 42: which forms there are."""

    def test_all_numbers(self):
        rows = [(alphabet,) for alphabet in range(-2, 20)]
        forms = families.check_forms(self, JournalForm, rows, lambda alphabet: 1 <= alphabet <= 4)
        self.assertEqual([form.alphabet for form in forms], [1, 2, 3, 4])
        with self.assertRaises(InvalidForm):
            JournalForm(10 ** 9)


class Machines(unittest.TestCase):
    """Points 42 and 43: the machine of a form."""

    def test_the_example(self):
        machine = journal_machine(JournalForm(2))
        self.assertEqual([name for name, guard, changes in machine.deeds],
                         ["g00", "g01", "g10", "g11", "commit", "y0", "y1", "done", "crash0", "crash1"])

    def test_a_machine_as_text(self):
        self.assertEqual(format_machine(journal_machine(JournalForm(2))), SMALL)

    def test_all_machines(self):
        # Only the sizes of the first four cells and the first deeds depend on the number of values.
        small = journal_machine(JournalForm(2))
        for alphabet in range(1, 5):
            machine = journal_machine(JournalForm(alphabet))
            names = ("f0", "f1", "j0", "j1", "l0", "l1", "c", "a0", "a1")
            self.assertEqual(machine.cells, tuple(zip(names, (alphabet,) * 4 + (2,) * 5)))
            self.assertEqual(machine.first, (1,) * 9)
            deeds = [(f"g{file}{value}", ((4 + file, 1), (6, 1)), ((2 + file, ("set", value)), (4 + file, ("set", 1))))
                     for file in range(2) for value in range(alphabet)]
            self.assertEqual(machine.deeds, tuple(deeds) + small.deeds[4:])


class Steps(unittest.TestCase):
    """Points 43 and 44: the functions that work on a disk."""

    def test_a_whole_transaction(self):
        form = JournalForm(3)
        disk = journal_log(form, (0, 0, 1, 1, 0, 0, 0, 0, 0), 1, 2)
        self.assertEqual(disk, (0, 0, 1, 2, 0, 1, 0, 0, 0))
        disk = journal_log(form, disk, 0, 0)
        self.assertEqual(disk, (0, 0, 0, 2, 1, 1, 0, 0, 0))
        self.assertEqual(journal_recovered(form, disk), (0, 0))
        disk = journal_commit(form, disk)
        self.assertEqual(disk, (0, 0, 0, 2, 1, 1, 1, 0, 0))
        self.assertEqual(journal_recovered(form, disk), (0, 2))
        disk = journal_apply(form, disk, 1)
        self.assertEqual(disk, (0, 2, 0, 2, 1, 1, 1, 0, 1))
        disk = journal_apply(form, disk, 0)
        self.assertEqual(disk, (0, 2, 0, 2, 1, 1, 1, 1, 1))
        disk = journal_done(form, disk)
        self.assertEqual(disk, (0, 2, 0, 2, 0, 0, 0, 0, 0))
        self.assertEqual(journal_recovered(form, disk), (0, 2))

    def test_crashes(self):
        form = JournalForm(2)
        self.assertEqual(journal_crash(form, (0, 1, 1, 0, 1, 0, 0, 0, 0)), (0, 1, 1, 0, 0, 0, 0, 0, 0))
        self.assertEqual(journal_crash(form, (0, 1, 1, 0, 1, 1, 0, 0, 0)), (0, 1, 1, 0, 0, 0, 0, 0, 0))
        self.assertEqual(journal_crash(form, (1, 1, 1, 0, 1, 1, 1, 1, 0)), (1, 1, 1, 0, 1, 1, 1, 0, 0))
        self.assertEqual(journal_crash(form, (0, 0, 0, 0, 0, 0, 0, 1, 1)), (0,) * 9)
        self.assertEqual(journal_crash(form, (0,) * 9), (0,) * 9)

    def test_what_is_recovered(self):
        form = JournalForm(4)
        self.assertEqual(journal_recovered(form, (3, 2, 1, 0, 1, 1, 0, 1, 1)), (3, 2))
        self.assertEqual(journal_recovered(form, (3, 2, 1, 0, 0, 0, 1, 0, 0)), (1, 0))

    def test_conditions_that_do_not_hold(self):
        form = JournalForm(2)
        for disk in itertools.product((0,), (1,), (0,), (1,), *[(0, 1)] * 5):
            logged, committed, applied = disk[4:6], disk[6], disk[7:9]
            for function, arguments, holds in (
                    (journal_log, (0, 1), not committed and not logged[0]),
                    (journal_log, (1, 0), not committed and not logged[1]),
                    (journal_commit, (), not committed and logged == (1, 1)),
                    (journal_apply, (0,), committed and not applied[0]),
                    (journal_apply, (1,), committed and not applied[1]),
                    (journal_done, (), committed and applied == (1, 1))):
                with self.subTest(disk=disk, function=function, arguments=arguments):
                    found = families.result_of(function, form, disk, *arguments)
                    if holds:
                        self.assertIsInstance(found, tuple)
                    else:
                        self.assertIs(found, NoRoom)
            self.assertIsInstance(journal_crash(form, disk), tuple)

    def test_wrong_files_and_values_come_first(self):
        form = JournalForm(2)
        for disk in ((0,) * 9, (0, 0, 0, 0, 1, 1, 1, 1, 1)):
            for file, value in ((2, 0), (-1, 0), (0, 2), (1, -1), (10 ** 9, 0), (0, 10 ** 9)):
                with self.subTest(disk=disk, file=file, value=value), self.assertRaises(InvalidFile):
                    journal_log(form, disk, file, value)
            for file in (2, -1, 10 ** 9):
                with self.subTest(disk=disk, file=file), self.assertRaises(InvalidFile):
                    journal_apply(form, disk, file)

    def test_long_runs(self):
        dice = random.Random(43)
        for form in (JournalForm(1), JournalForm(2), JournalForm(4)):
            machine = journal_machine(form)
            model, disk = Model(), (0,) * 9
            pairs = [(0, 0)]
            for _ in range(600):
                name, function, word, arguments = dice.choice(all_steps(form))
                if word == "crash" and dice.random() < 0.7:
                    continue
                found = families.result_of(function, form, disk, *arguments)
                self.assertEqual(found, getattr(model, word)(*arguments))
                names = ("crash0", "crash1") if word == "crash" else (name,)
                after = families.disks_after(machine, disk, lambda other: other in names)
                self.assertEqual(after, [found] if isinstance(found, tuple) else [])
                if not isinstance(found, tuple):
                    continue
                disk = found
                if word == "commit":
                    pairs.append((model.journal[0], model.journal[1]))
                self.assertEqual(journal_recovered(form, disk), pairs[-1])
            self.assertTrue(len(pairs) > 8)

    def test_every_deed_on_every_disk_is_one_function(self):
        for form in (JournalForm(1), JournalForm(2)):
            machine = journal_machine(form)
            for disk in samples.reached(machine):
                found = [families.result_of(function, form, disk, *arguments)
                         for _, function, _, arguments in all_steps(form)]
                done = [new for new in found if isinstance(new, tuple)]
                self.assertEqual(sorted(done), sorted(samples.steps_of(machine, disk)))

    def test_what_is_recovered_changes_with_commit_only(self):
        form = JournalForm(3)
        machine = journal_machine(form)
        changed = 0
        for disk in samples.reached(machine):
            for number, (name, _, _) in enumerate(machine.deeds):
                new = samples.done(machine, disk, number)
                if new is not None and journal_recovered(form, new) != journal_recovered(form, disk):
                    self.assertEqual(name, "commit")
                    self.assertEqual(journal_recovered(form, new), disk[2:4])
                    changed += 1
        self.assertTrue(changed > 0)


class Pieces(unittest.TestCase):
    """The function journal_piece."""

    def test_sketch_by_sketch(self):
        self.assertEqual(journal_piece(JournalForm(3), 1, 2),
                         [(2, 4, 7, 7, 3, 3, 1, 3, 3), (7, 7, 2, 4, 3, 3, 2, 3, 3)])
        self.assertEqual(journal_piece(JournalForm(1), 0, 0),
                         [(1, 1, 1, 1, 3, 3, 1, 3, 3), (1, 1, 1, 1, 3, 3, 2, 3, 3)])

    def test_on_all_disks(self):
        for alphabet in (1, 2, 3):
            form = JournalForm(alphabet)
            machine = journal_machine(form)
            reached = samples.reached(machine)
            for pair in itertools.product(range(alphabet), repeat=2):
                piece = journal_piece(form, *pair)
                self.assertEqual(len(piece), 2)
                for disk in samples.disks_of(machine):
                    self.assertIs(has_piece(piece, disk), journal_recovered(form, disk) == pair)
                self.assertTrue(any(has_piece(piece, disk) for disk in reached))

    def test_wrong_values(self):
        for first, second in ((2, 0), (0, 2), (-1, 0), (0, -1), (10 ** 9, 0), (0, 10 ** 9)):
            with self.subTest(first=first, second=second), self.assertRaises(InvalidFile):
                journal_piece(JournalForm(2), first, second)

    def test_telling(self):
        form = JournalForm(2)
        pieces = [journal_piece(form, *pair) for pair in itertools.product(range(2), repeat=2)]
        families.check_telling(self, journal_machine(form), pieces, random.Random(44), 60)


class Calls(unittest.TestCase):
    """Points 2 and 4."""

    def test_lists_are_new_and_forms_stay_as_they_are(self):
        form = JournalForm(3)
        first, second = journal_piece(form, 1, 2), journal_piece(form, 1, 2)
        self.assertIsInstance(first, list)
        first.clear()
        self.assertEqual(journal_piece(form, 1, 2), second)
        self.assertIsInstance(journal_recovered(form, (0,) * 9), tuple)
        one, other = journal_machine(form), journal_machine(JournalForm(3))
        self.assertEqual((one.cells, one.deeds, one.first), (other.cells, other.deeds, other.first))
        self.assertEqual(vars(form), vars(JournalForm(3)))


if __name__ == "__main__":
    unittest.main()
