"""The family of stripes: two data disks and a disk for their parity (points 62 to 64)."""

from raisedwreck.errors import NoRoom
from raisedwreck.forms import cells_of, changes_of, check_file, check_number, check_value, disk_with, guard_of
from raisedwreck.machines import Machine

DATA = 2
# The cells: the data disks stand before these.
PARITY = 2
WORK = 3
# The mask of the values of the work that say that the parity was not yet written.
UNFINISHED = 6


class StripeForm:
    """A form of the family of stripes."""

    def __init__(self, alphabet):
        check_number(alphabet, 2, 5)
        self.alphabet = alphabet


def stripe_cells(form):
    """The cells of the machine of a form."""
    return cells_of("d", DATA, form.alphabet) + [("p", form.alphabet), ("w", 1 + DATA)]


def stripe_machine(form):
    """The machine of a form."""
    values = list(range(form.alphabet))
    deeds = [begin_deed(number, value) for number in range(DATA) for value in values]
    deeds.extend([end_deed(form, first, second) for first in values for second in values])
    deeds.extend([rebuild_deed(form, number, other, parity)
                  for number in range(DATA) for other in values for parity in values])
    cells = stripe_cells(form)
    return Machine(cells, deeds, (1,) * len(cells))


def begin_deed(number, value):
    """The deed that begins to write a value to a data disk."""
    return (f"b{number}{value}", guard_of([(WORK, 0)]), changes_of(begun_pairs(number, value)))


def end_deed(form, first, second):
    """The deed that finishes the parity of two values."""
    guard = guard_of([(0, first), (1, second)]) + ((WORK, UNFINISHED),)
    return (f"e{first}{second}", guard, changes_of(ended_pairs(form, first, second)))


def rebuild_deed(form, number, other, parity):
    """The deed that rebuilds a data disk from the value of the other one and the parity."""
    guard = guard_of([(DATA - 1 - number, other), (PARITY, parity), (WORK, 0)])
    return (f"r{number}{other}{parity}", guard, changes_of(rebuilt_pairs(form, number, other, parity)))


def begun_pairs(number, value):
    """The pairs of a cell and a value after a value was written to a data disk."""
    return [(number, value), (WORK, 1 + number)]


def ended_pairs(form, first, second):
    """The pairs of a cell and a value after the parity of two values was finished."""
    return [(PARITY, (first + second) % form.alphabet), (WORK, 0)]


def rebuilt_pairs(form, number, other, parity):
    """The pairs of a cell and a value after a data disk was rebuilt."""
    return [(number, (parity - other) % form.alphabet)]


def stripe_begin(form, disk, number, value):
    """The disk after beginning to write a value to a data disk."""
    check_file(DATA, number)
    check_value(form.alphabet, value)
    check_work(disk, False)
    return disk_with(disk, begun_pairs(number, value))


def stripe_end(form, disk):
    """The disk after finishing the parity."""
    check_work(disk, True)
    return disk_with(disk, ended_pairs(form, disk[0], disk[1]))


def stripe_rebuild(form, disk, number):
    """The disk after rebuilding a data disk."""
    check_file(DATA, number)
    check_work(disk, False)
    return disk_with(disk, rebuilt_pairs(form, number, disk[DATA - 1 - number], disk[PARITY]))


def check_work(disk, is_needed):
    """Raise NoRoom if a disk has no work that is not finished although it is needed, or the other way round."""
    if (disk[WORK] != 0) != is_needed:
        raise NoRoom("the condition on the work that is not finished does not hold")
