"""What the families of file systems have in common: forms, names, guards and changes (points 31 and 32)."""

from raisedwreck.errors import InvalidFile, InvalidForm, NoSuchFile
from raisedwreck.machines import MOST_DEEDS
from raisedwreck.sketches import sketch_with


def check_number(number, least, most):
    """Raise InvalidForm if a number of a form is out of its range."""
    if not least <= number <= most:
        raise InvalidForm(f"{number} is not from {least} to {most}")


def check_blocks(files, blocks, alphabet, longest):
    """Raise InvalidForm if a number of a form with files in blocks is out of its range."""
    check_number(files, 1, 3)
    check_number(blocks, 1, 5)
    check_number(alphabet, 1, 3)
    check_number(longest, 1, 3)
    if longest > blocks:
        raise InvalidForm("the contents may be longer than all blocks")


def check_many_deeds(many):
    """Raise InvalidForm if the machine of a form would have too many deeds."""
    if many > MOST_DEEDS:
        raise InvalidForm(f"the machine would have {many} deeds")


def check_file(files, file):
    """Raise InvalidFile if a number is not that of one of some files."""
    if not 0 <= file < files:
        raise InvalidFile(f"there is no file {file}")


def check_value(alphabet, value):
    """Raise InvalidFile if a number is not a value below the number of values of a form."""
    if not 0 <= value < alphabet:
        raise InvalidFile(f"{value} is no value of the form")


def check_contents(form, contents):
    """Raise InvalidFile if contents have a wrong length or value for a form."""
    if not 1 <= len(contents) <= form.longest:
        raise InvalidFile("the contents have a wrong length")
    for value in contents:
        check_value(form.alphabet, value)


def is_live(places, entry):
    """True if an entry says that the file is live, in a family where files begin at one of so many places.

    Such an entry is 0 if the file was never written, 1 + k if it is live at the place k,
    and 1 + places + k if it is deleted and was there.
    """
    return 1 <= entry <= places


def entries_not_live(places):
    """The mask of the entries that say that the file is not live."""
    return sum([1 << entry for entry in range(1 + 2 * places) if not is_live(places, entry)])


def check_live(places, disk, file):
    """Raise NoSuchFile if a file is not live on a disk whose first cells are the entries of the files."""
    if not is_live(places, disk[file]):
        raise NoSuchFile(f"the file {file} is not live")


def block_cell(form, block):
    """The cell of the link or the mark of a block; the entries of the files stand before these cells."""
    return form.files + block


def contents_cell(form, block):
    """The cell of the contents of a block, in a form with files in blocks."""
    return form.files + form.blocks + block


def contents_pairs(form, blocks, contents):
    """The pairs of a cell and a value of the contents of blocks."""
    return [(contents_cell(form, block), value) for block, value in zip(blocks, contents)]


def contents_on(form, disk, blocks):
    """The contents of blocks on a disk."""
    return tuple([disk[contents_cell(form, block)] for block in blocks])


def cells_of(letter, many, size):
    """Cells of one size that have a letter and their numbers as names."""
    return [(f"{letter}{number}", size) for number in range(many)]


def digits_of(values):
    """The digits of a tuple: its items, one after the other (point 32)."""
    return "".join([str(value) for value in values])


def tuples_of(size, length):
    """All tuples of a length of the values below a size, in ascending order."""
    rows = [()]
    for _ in range(length):
        rows = [(*row, value) for row in rows for value in range(size)]
    return rows


def guard_of(pairs):
    """The guard that each cell of some pairs of a cell and a value has this one value."""
    return tuple([(cell, 1 << value) for cell, value in pairs])


def changes_of(pairs):
    """The changes that give the cells of some pairs of a cell and a value these values."""
    return tuple([(cell, ("set", value)) for cell, value in pairs])


def full_of(cells):
    """The sketch of all disks of a machine with these cells."""
    return tuple([(1 << size) - 1 for name, size in cells])


def sketch_of(cells, pairs):
    """The sketch of the disks, of a machine with these cells, with the values of some pairs of a cell and a value."""
    return sketch_with(full_of(cells), guard_of(pairs))


def disk_with(disk, pairs):
    """A disk with the values of some pairs of a cell and a value in these cells."""
    values = list(disk)
    for cell, value in pairs:
        values[cell] = value
    return tuple(values)
