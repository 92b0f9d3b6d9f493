"""The family of extents: file systems in which a file lies in one run of blocks (points 36 to 38)."""

from raisedwreck.errors import InvalidFile, InvalidForm, NoRoom
from raisedwreck.forms import (block_cell, cells_of, changes_of, check_blocks, check_contents, check_file, check_live,
                               check_many_deeds, contents_on, contents_pairs, digits_of, disk_with, entries_not_live,
                               guard_of, is_live, sketch_of, tuples_of)
from raisedwreck.machines import LONGEST_NAME, Machine

MOST_RUNS = 7
FREE = 0
USED = 1


class ExtentForm:
    """A form of the family of extents."""

    def __init__(self, files, blocks, alphabet, longest):
        check_blocks(files, blocks, alphabet, longest)
        self.files = files
        self.blocks = blocks
        self.alphabet = alphabet
        self.longest = longest
        self.runs = tuple([(block, length) for block in range(blocks) for length in range(1, longest + 1)
                           if block + length <= blocks])
        if len(self.runs) > MOST_RUNS:
            raise InvalidForm(f"there would be {len(self.runs)} runs")
        if len("w0r0mc") + blocks + longest > LONGEST_NAME:
            raise InvalidForm("a deed would have too long a name")
        check_many_deeds(count_extent_deeds(self))


def count_extent_deeds(form):
    """The number of the deeds of the machine of a form."""
    many = len(form.runs)
    for run in range(len(form.runs)):
        contents = len(tuples_of(form.alphabet, form.runs[run][1]))
        # For each of the contents, a deed writes for each tuple of marks, and one deed overwrites.
        many += contents * (len(marks_before(form, run)) + 1)
    return form.files * many


def marks_before(form, run):
    """The tuples of marks, in ascending order, for which a run is the one that is taken."""
    return [marks for marks in tuples_of(2, form.blocks) if taken_run(form, marks, form.runs[run][1]) == run]


def taken_run(form, marks, length):
    """The number of the run of a length that is taken for some marks, or -1 if there is none."""
    for run, (block, many) in enumerate(form.runs):
        if many == length and USED not in marks[block:block + many]:
            return run
    return -1


def blocks_in(form, run):
    """The blocks of a run."""
    block, length = form.runs[run]
    return list(range(block, block + length))


def extent_cells(form):
    """The cells of the machine of a form."""
    return (cells_of("d", form.files, 1 + 2 * len(form.runs)) + cells_of("u", form.blocks, 2)
            + cells_of("c", form.blocks, form.alphabet))


def extent_machine(form):
    """The machine of a form."""
    deeds = []
    runs = list(range(len(form.runs)))
    for file in range(form.files):
        deeds.extend([write_deed(form, file, run, marks, contents) for run in runs for marks in marks_before(form, run)
                      for contents in tuples_of(form.alphabet, form.runs[run][1])])
        deeds.extend([overwrite_deed(form, file, run, contents) for run in runs
                      for contents in tuples_of(form.alphabet, form.runs[run][1])])
        deeds.extend([delete_deed(form, file, run) for run in runs])
    cells = extent_cells(form)
    return Machine(cells, deeds, (1,) * len(cells))


def write_deed(form, file, run, marks, contents):
    """The deed that writes a file into a run while the blocks have these marks."""
    guard = ((file, entries_not_live(len(form.runs))),) + guard_of(
        [(block_cell(form, block), mark) for block, mark in enumerate(marks)])
    name = f"w{file}r{run}m{digits_of(marks)}c{digits_of(contents)}"
    return (name, guard, changes_of(written_pairs(form, file, run, contents)))


def overwrite_deed(form, file, run, contents):
    """The deed that overwrites a file in a run."""
    name = f"o{file}r{run}c{digits_of(contents)}"
    return (name, guard_of(entry_pairs(file, run)), changes_of(contents_pairs(form, blocks_in(form, run), contents)))


def delete_deed(form, file, run):
    """The deed that deletes a file in a run."""
    return (f"e{file}r{run}", guard_of(entry_pairs(file, run)), changes_of(deleted_pairs(form, file, run)))


def entry_pairs(file, run):
    """The pair, as a list, of the cell and the value of the entry of a live file in a run."""
    return [(file, 1 + run)]


def written_pairs(form, file, run, contents):
    """The pairs of a cell and a value after a file was written into a run."""
    marks = [(block_cell(form, block), USED) for block in blocks_in(form, run)]
    return entry_pairs(file, run) + marks + contents_pairs(form, blocks_in(form, run), contents)


def deleted_pairs(form, file, run):
    """The pairs of a cell and a value after a file in a run was deleted."""
    return [(file, 1 + len(form.runs) + run)] + [(block_cell(form, block), FREE) for block in blocks_in(form, run)]


def extent_files(form, disk):
    """The list of the pairs of a file and its contents, for all live files."""
    return [(file, contents_on(form, disk, blocks_in(form, disk[file] - 1)))
            for file in range(form.files) if is_live(len(form.runs), disk[file])]


def extent_write(form, disk, file, contents):
    """The disk after writing a file that is not live."""
    check_file(form.files, file)
    check_contents(form, contents)
    if is_live(len(form.runs), disk[file]):
        raise InvalidFile(f"the file {file} is live")
    marks = disk[form.files:form.files + form.blocks]
    run = taken_run(form, marks, len(contents))
    if run < 0:
        raise NoRoom("there is no free run of this length")
    return disk_with(disk, written_pairs(form, file, run, contents))


def extent_overwrite(form, disk, file, contents):
    """The disk after overwriting a live file with contents of the same length."""
    check_file(form.files, file)
    check_contents(form, contents)
    check_live(len(form.runs), disk, file)
    run = disk[file] - 1
    if form.runs[run][1] != len(contents):
        raise InvalidFile(f"the contents of the file {file} have another length")
    return disk_with(disk, contents_pairs(form, blocks_in(form, run), contents))


def extent_delete(form, disk, file):
    """The disk after deleting a live file."""
    check_file(form.files, file)
    check_live(len(form.runs), disk, file)
    return disk_with(disk, deleted_pairs(form, file, disk[file] - 1))


def extent_piece(form, file, contents):
    """The piece that a disk has exactly if a file is live with these contents."""
    check_file(form.files, file)
    check_contents(form, contents)
    return [sketch_of(extent_cells(form), entry_pairs(file, run) + contents_pairs(form, blocks_in(form, run), contents))
            for run, (_, length) in enumerate(form.runs) if length == len(contents)]
