"""The family of journals: two files that a transaction changes together (points 42 to 44)."""

from raisedwreck.errors import NoRoom
from raisedwreck.forms import (cells_of, changes_of, check_file, check_number, check_value, disk_with, guard_of,
                               sketch_of)
from raisedwreck.machines import Machine

FILES = 2
# The cells: each file has its value, its journal, and the marks that it is logged and applied.
JOURNAL = 2
LOGGED = 4
COMMITTED = 6
APPLIED = 7


class JournalForm:
    """A form of the family of journals."""

    def __init__(self, alphabet):
        check_number(alphabet, 1, 4)
        self.alphabet = alphabet


def journal_cells(form):
    """The cells of the machine of a form."""
    return (cells_of("f", FILES, form.alphabet) + cells_of("j", FILES, form.alphabet) + cells_of("l", FILES, 2)
            + [("c", 2)] + cells_of("a", FILES, 2))


def journal_machine(form):
    """The machine of a form."""
    deeds = [step_deed(f"g{file}{value}", may_log(file), logged_pairs(file, value))
             for file in range(FILES) for value in range(form.alphabet)]
    deeds.append(step_deed("commit", may_commit(), committed_pairs()))
    deeds.extend([apply_deed(file) for file in range(FILES)])
    deeds.append(step_deed("done", may_be_done(), done_pairs()))
    deeds.append(step_deed("crash0", [(COMMITTED, 0)], crashed_pairs(0)))
    deeds.append(step_deed("crash1", [(COMMITTED, 1)], crashed_pairs(1)))
    cells = journal_cells(form)
    return Machine(cells, deeds, (1,) * len(cells))


def step_deed(name, needed, pairs):
    """The deed with a name that needs some pairs of a cell and a value and sets others."""
    return (name, guard_of(needed), changes_of(pairs))


def apply_deed(file):
    """The deed that applies the value of a file."""
    return (f"y{file}", guard_of(may_apply(file)), ((file, ("copy", JOURNAL + file)), (APPLIED + file, ("set", 1))))


def may_log(file):
    """The pairs of a cell and a value that are needed to log a value of a file."""
    return [(LOGGED + file, 0), (COMMITTED, 0)]


def logged_pairs(file, value):
    """The pairs of a cell and a value after a value of a file was logged."""
    return [(JOURNAL + file, value), (LOGGED + file, 1)]


def may_commit():
    """The pairs of a cell and a value that are needed to commit."""
    return [(LOGGED, 1), (LOGGED + 1, 1), (COMMITTED, 0)]


def committed_pairs():
    """The pairs of a cell and a value after the transaction was committed."""
    return [(COMMITTED, 1)]


def may_apply(file):
    """The pairs of a cell and a value that are needed to apply the value of a file."""
    return [(COMMITTED, 1), (APPLIED + file, 0)]


def may_be_done():
    """The pairs of a cell and a value that are needed to end the transaction."""
    return [(COMMITTED, 1), (APPLIED, 1), (APPLIED + 1, 1)]


def done_pairs():
    """The pairs of a cell and a value after the transaction was ended."""
    return [(cell, 0) for cell in range(LOGGED, APPLIED + FILES)]


def crashed_pairs(committed):
    """The pairs of a cell and a value after a crash, before or after the transaction was committed."""
    applied = [(APPLIED, 0), (APPLIED + 1, 0)]
    if committed:
        return applied
    return [(LOGGED, 0), (LOGGED + 1, 0)] + applied


def check_step(disk, needed):
    """Raise NoRoom if a disk has not all pairs of a cell and a value that a step needs."""
    for cell, value in needed:
        if disk[cell] != value:
            raise NoRoom("the condition of the step does not hold")


def journal_log(form, disk, file, value):
    """The disk after logging a value of a file."""
    check_file(FILES, file)
    check_value(form.alphabet, value)
    check_step(disk, may_log(file))
    return disk_with(disk, logged_pairs(file, value))


def journal_commit(form, disk):
    """The disk after committing the transaction."""
    check_step(disk, may_commit())
    return disk_with(disk, committed_pairs())


def journal_apply(form, disk, file):
    """The disk after applying the value of a file."""
    check_file(FILES, file)
    check_step(disk, may_apply(file))
    return disk_with(disk, [(file, disk[JOURNAL + file]), (APPLIED + file, 1)])


def journal_done(form, disk):
    """The disk after ending the transaction."""
    check_step(disk, may_be_done())
    return disk_with(disk, done_pairs())


def journal_crash(form, disk):
    """The disk after a crash."""
    return disk_with(disk, crashed_pairs(disk[COMMITTED]))


def journal_recovered(form, disk):
    """The pair that is recovered from a disk."""
    if disk[COMMITTED]:
        return (disk[JOURNAL], disk[JOURNAL + 1])
    return (disk[0], disk[1])


def journal_piece(form, first, second):
    """The piece that a disk has exactly if the pair of two values is recovered."""
    check_value(form.alphabet, first)
    check_value(form.alphabet, second)
    cells = journal_cells(form)
    return [sketch_of(cells, [(0, first), (1, second), (COMMITTED, 0)]),
            sketch_of(cells, [(JOURNAL, first), (JOURNAL + 1, second), (COMMITTED, 1)])]
