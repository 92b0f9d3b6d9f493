"""Machines: their cells, deeds and first disks, and what deeds do to a disk."""

from raisedwreck.errors import CannotDo, InvalidDisk, InvalidMachine, InvalidSketch, NoSuchDeed
from raisedwreck.sketches import contains

MOST_CELLS = 24
MOST_VALUES = 16
MOST_DEEDS = 400
LONGEST_NAME = 12
LETTERS = "abcdefghijklmnopqrstuvwxyz"
LETTERS_AND_DIGITS = "abcdefghijklmnopqrstuvwxyz0123456789"


class Machine:
    """A machine: cells, deeds and a first sketch (points 5 to 7)."""

    def __init__(self, cells, deeds, first):
        self.cells = tuple(cells)
        self.deeds = tuple(deeds)
        self.first = tuple(first)
        check_cells(self.cells)
        self._full = tuple([(1 << size) - 1 for name, size in self.cells])
        check_deeds(self._full, self.deeds)
        if not fits(self._full, self.first):
            raise InvalidMachine("the first sketch is no sketch of the machine")

    @property
    def full(self):
        """The sketch in which all disks are."""
        return self._full

    def cell(self, name):
        """The number of the cell with a name."""
        for number, cell in enumerate(self.cells):
            if cell[0] == name:
                return number
        raise InvalidSketch(f"there is no cell {name}")

    def deed(self, name):
        """The number of the deed with a name."""
        for number, deed in enumerate(self.deeds):
            if deed[0] == name:
                return number
        raise NoSuchDeed(f"there is no deed {name}")


def is_name(word):
    """True if a cell or a deed may have this name, otherwise False."""
    if not 1 <= len(word) <= LONGEST_NAME or word[0] not in LETTERS:
        return False
    return all([letter in LETTERS_AND_DIGITS for letter in word])


def check_cells(cells):
    """Raise InvalidMachine if a machine cannot have these cells."""
    if not 1 <= len(cells) <= MOST_CELLS:
        raise InvalidMachine(f"a machine has from 1 to {MOST_CELLS} cells")
    for name, size in cells:
        if not is_name(name):
            raise InvalidMachine("a cell has a wrong name")
        if not 1 <= size <= MOST_VALUES:
            raise InvalidMachine(f"the cell {name} has a wrong size")
    if len({name for name, size in cells}) < len(cells):
        raise InvalidMachine("two cells have the same name")


def check_deeds(full, deeds):
    """Raise InvalidMachine if a machine with this full sketch cannot have these deeds."""
    if len(deeds) > MOST_DEEDS:
        raise InvalidMachine(f"a machine has at most {MOST_DEEDS} deeds")
    for name, guard, changes in deeds:
        if not is_name(name):
            raise InvalidMachine("a deed has a wrong name")
        if not is_guard(full, guard):
            raise InvalidMachine(f"the deed {name} has a wrong guard")
        if not are_changes(full, changes):
            raise InvalidMachine(f"the deed {name} has wrong changes")
    if len({deed[0] for deed in deeds}) < len(deeds):
        raise InvalidMachine("two deeds have the same name")


def is_guard(full, guard):
    """True if pairs of a cell and a mask are a guard, otherwise False."""
    if not ascend(full, [cell for cell, mask in guard]):
        return False
    return all([1 <= mask <= full[cell] for cell, mask in guard])


def are_changes(full, changes):
    """True if pairs of a cell and a source are the changes of a deed, otherwise False."""
    if not ascend(full, [cell for cell, source in changes]):
        return False
    return all([is_source(full, cell, source) for cell, source in changes])


def ascend(full, cells):
    """True if the numbers are cells and ascend strictly, otherwise False."""
    last = -1
    for cell in cells:
        if not last < cell < len(full):
            return False
        last = cell
    return True


def is_source(full, cell, source):
    """True if a cell may get its value from a source, otherwise False."""
    word, number = source
    if word == "set":
        return 0 <= number < full[cell].bit_length()
    if word == "copy":
        return 0 <= number < len(full) and full[number] <= full[cell]
    return False


def fits(full, sketch):
    """True if a tuple of integers is a sketch of a machine with this full sketch, otherwise False."""
    if len(sketch) != len(full):
        return False
    for mask, most in zip(sketch, full):
        if not 1 <= mask <= most:
            return False
    return True


def check_disk(machine, disk):
    """Raise InvalidDisk if a tuple of integers is not a disk of the machine."""
    if len(disk) != len(machine.cells):
        raise InvalidDisk("a disk has one value for each cell")
    for (name, size), value in zip(machine.cells, disk):
        if not 0 <= value < size:
            raise InvalidDisk(f"the cell {name} has a wrong value")


def check_sketch(machine, sketch):
    """Raise InvalidSketch if a tuple of integers is not a sketch of the machine."""
    if not fits(machine.full, sketch):
        raise InvalidSketch("this is no sketch of the machine")


def check_question(machine, image, piece):
    """Raise InvalidSketch if the image or a sketch of the piece is no sketch of the machine."""
    check_sketch(machine, image)
    for sketch in piece:
        check_sketch(machine, sketch)


def check_deed(machine, deed):
    """Raise NoSuchDeed if the machine has no deed with a number."""
    if not 0 <= deed < len(machine.deeds):
        raise NoSuchDeed(f"there is no deed with the number {deed}")


def can_do(machine, disk, deed):
    """True if the deed with a number can be done on a disk, otherwise False."""
    check_disk(machine, disk)
    check_deed(machine, deed)
    return allows(machine.deeds[deed], disk)


def after(machine, disk, deed):
    """The disk after the deed with a number."""
    if not can_do(machine, disk, deed):
        raise CannotDo(0)
    return changed(machine.deeds[deed], disk)


def moments(machine, disk, deeds):
    """The list of the moments of the history with a first disk and a list of numbers of deeds."""
    check_disk(machine, disk)
    if not contains(machine.first, disk):
        raise InvalidDisk("the disk is no first disk")
    for deed in deeds:
        check_deed(machine, deed)
    disks = [disk]
    for position, deed in enumerate(deeds):
        if not allows(machine.deeds[deed], disks[-1]):
            raise CannotDo(position)
        disks.append(changed(machine.deeds[deed], disks[-1]))
    return disks


def allows(deed, disk):
    """True if the guard of a deed holds on a disk, otherwise False."""
    for cell, mask in deed[1]:
        if not mask >> disk[cell] & 1:
            return False
    return True


def changed(deed, disk):
    """The disk after a deed whose guard holds on a disk."""
    values = list(disk)
    for cell, (word, number) in deed[2]:
        values[cell] = number if word == "set" else disk[number]
    return tuple(values)
