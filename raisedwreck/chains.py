"""The family of chains: file systems whose blocks are linked (points 33 to 35)."""

from raisedwreck.errors import InvalidFile, NoRoom
from raisedwreck.forms import (block_cell, cells_of, changes_of, check_blocks, check_contents, check_file, check_live,
                               check_many_deeds, contents_on, contents_pairs, digits_of, disk_with, entries_not_live,
                               guard_of, is_live, sketch_of, tuples_of)
from raisedwreck.machines import Machine

FREE = 0
LAST = 1


class ChainForm:
    """A form of the family of chains."""

    def __init__(self, files, blocks, alphabet, longest, *, wiped=True):
        check_blocks(files, blocks, alphabet, longest)
        self.files = files
        self.blocks = blocks
        self.alphabet = alphabet
        self.longest = longest
        self.wiped = wiped
        check_many_deeds(count_chain_deeds(self))


def count_chain_deeds(form):
    """The number of the deeds of the machine of a form."""
    many = 0
    for length in range(1, form.longest + 1):
        # For each tuple of blocks, one deed writes and one overwrites each of the contents, and one deletes.
        many += len(block_tuples(form, length)) * (2 * len(tuples_of(form.alphabet, length)) + 1)
    return form.files * many


def block_tuples(form, length):
    """The ascending tuples of a length of different blocks, in ascending order."""
    return [blocks for blocks in tuples_of(form.blocks, length)
            if all([block < later for block, later in zip(blocks, blocks[1:])])]


def all_block_tuples(form):
    """The tuples of blocks that a file may have, ordered by their length, then as tuples."""
    return [blocks for length in range(1, form.longest + 1) for blocks in block_tuples(form, length)]


def chain_cells(form):
    """The cells of the machine of a form."""
    return (cells_of("d", form.files, 1 + 2 * form.blocks) + cells_of("t", form.blocks, 2 + form.blocks)
            + cells_of("c", form.blocks, form.alphabet))


def chain_machine(form):
    """The machine of a form."""
    deeds = []
    for file in range(form.files):
        fills = [(blocks, contents) for blocks in all_block_tuples(form)
                 for contents in tuples_of(form.alphabet, len(blocks))]
        deeds.extend([write_deed(form, file, blocks, contents) for blocks, contents in fills])
        deeds.extend([overwrite_deed(form, file, blocks, contents) for blocks, contents in fills])
        deeds.extend([delete_deed(form, file, blocks) for blocks in all_block_tuples(form)])
    contents_mask = 1 if form.wiped else (1 << form.alphabet) - 1
    first = (1,) * (form.files + form.blocks) + (contents_mask,) * form.blocks
    return Machine(chain_cells(form), deeds, first)


def write_deed(form, file, blocks, contents):
    """The deed that writes a file into blocks."""
    guard = [(file, entries_not_live(form.blocks))]
    for block in range(blocks[-1] + 1):
        guard.append((block_cell(form, block), 1 if block in blocks else (1 << (2 + form.blocks)) - 2))
    changes = changes_of(live_pairs(form, file, blocks) + contents_pairs(form, blocks, contents))
    return (f"w{file}b{digits_of(blocks)}c{digits_of(contents)}", tuple(guard), changes)


def overwrite_deed(form, file, blocks, contents):
    """The deed that overwrites a file in blocks."""
    name = f"o{file}b{digits_of(blocks)}c{digits_of(contents)}"
    return (name, guard_of(live_pairs(form, file, blocks)), changes_of(contents_pairs(form, blocks, contents)))


def delete_deed(form, file, blocks):
    """The deed that deletes a file in blocks."""
    name = f"e{file}b{digits_of(blocks)}"
    return (name, guard_of(live_pairs(form, file, blocks)), changes_of(deleted_pairs(form, file, blocks)))


def live_pairs(form, file, blocks):
    """The pairs of a cell and a value of the entry and the links of a live file in blocks."""
    links = [2 + block for block in blocks[1:]] + [LAST]
    return [(file, 1 + blocks[0])] + [(block_cell(form, block), link) for block, link in zip(blocks, links)]


def deleted_pairs(form, file, blocks):
    """The pairs of a cell and a value of the entry and the links after a file in blocks was deleted."""
    return [(file, 1 + form.blocks + blocks[0])] + [(block_cell(form, block), FREE) for block in blocks]


def blocks_of(form, disk, file):
    """The tuple of the blocks of a live file on a disk."""
    blocks = [disk[file] - 1]
    while disk[block_cell(form, blocks[-1])] != LAST:
        blocks.append(disk[block_cell(form, blocks[-1])] - 2)
    return tuple(blocks)


def chain_files(form, disk):
    """The list of the pairs of a file and its contents, for all live files."""
    return [(file, contents_on(form, disk, blocks_of(form, disk, file)))
            for file in range(form.files) if is_live(form.blocks, disk[file])]


def chain_write(form, disk, file, contents):
    """The disk after writing a file that is not live."""
    check_file(form.files, file)
    check_contents(form, contents)
    if is_live(form.blocks, disk[file]):
        raise InvalidFile(f"the file {file} is live")
    free = [block for block in range(form.blocks) if disk[block_cell(form, block)] == FREE]
    if len(free) < len(contents):
        raise NoRoom("there are not enough free blocks")
    blocks = free[:len(contents)]
    return disk_with(disk, live_pairs(form, file, blocks) + contents_pairs(form, blocks, contents))


def chain_overwrite(form, disk, file, contents):
    """The disk after overwriting a live file with contents of the same length."""
    check_file(form.files, file)
    check_contents(form, contents)
    check_live(form.blocks, disk, file)
    blocks = blocks_of(form, disk, file)
    if len(blocks) != len(contents):
        raise InvalidFile(f"the contents of the file {file} have another length")
    return disk_with(disk, contents_pairs(form, blocks, contents))


def chain_delete(form, disk, file):
    """The disk after deleting a live file."""
    check_file(form.files, file)
    check_live(form.blocks, disk, file)
    return disk_with(disk, deleted_pairs(form, file, blocks_of(form, disk, file)))


def chain_piece(form, file, contents):
    """The piece that a disk has exactly if a file is live with these contents."""
    check_file(form.files, file)
    check_contents(form, contents)
    return [sketch_of(chain_cells(form), live_pairs(form, file, blocks) + contents_pairs(form, blocks, contents))
            for blocks in block_tuples(form, len(contents))]
