"""The family of roots: a file that is updated by copy on write (points 45 to 47)."""

from raisedwreck.forms import (cells_of, changes_of, check_many_deeds, check_number, check_value, digits_of, disk_with,
                               guard_of, sketch_of)
from raisedwreck.machines import Machine

ROOTS = 2
GENERATIONS = 3
# The cells: the generations of both roots, then their blocks, then the contents of the blocks.
BLOCK = 2
CONTENTS = 4


class RootForm:
    """A form of the family of roots."""

    def __init__(self, blocks, alphabet):
        check_number(blocks, 3, 5)
        check_number(alphabet, 1, 4)
        # Each update and each torn update has its deed for each pair of roots and each value.
        check_many_deeds(ROOTS * GENERATIONS * blocks * (blocks - 1) * alphabet * 2)
        self.blocks = blocks
        self.alphabet = alphabet


def root_cells(form):
    """The cells of the machine of a form."""
    return (cells_of("g", ROOTS, GENERATIONS) + cells_of("p", ROOTS, form.blocks)
            + cells_of("c", form.blocks, form.alphabet))


def root_machine(form):
    """The machine of a form."""
    deeds = []
    for newer in range(ROOTS):
        for generation in range(GENERATIONS):
            for roots in pairs_of_roots(form, newer, generation):
                for value in range(form.alphabet):
                    deeds.append(update_deed(form, newer, roots, value))
                    deeds.append(torn_deed(form, newer, roots, value))
    first = (2, 1, 1, 2) + (1,) * form.blocks
    return Machine(root_cells(form), deeds, first)


def generations_of(newer, generation):
    """The generations of both roots, given which root is newer and the generation of root 0."""
    step = 1 if newer else -1
    return (generation, (generation + step) % GENERATIONS)


def pairs_of_roots(form, newer, generation):
    """The values of the first four cells for which a root is newer and root 0 has a generation."""
    return [generations_of(newer, generation) + (block, other) for block in range(form.blocks)
            for other in range(form.blocks) if block != other]


def newer_root(roots):
    """The newer root, given the generations of both roots, which may be followed by other values."""
    return 0 if roots[0] == (roots[1] + 1) % GENERATIONS else 1


def deed_name(letter, newer, roots, value):
    """The name of a deed: a letter and the digits of what it depends on."""
    generation, _, block, other = roots
    return letter + digits_of((newer, generation, block, other, value))


def update_deed(form, newer, roots, value):
    """The deed that updates the file to a value."""
    pairs = updated_pairs(form, newer, roots) + torn_pairs(form, roots, value)
    return (deed_name("u", newer, roots, value), guard_of(list(enumerate(roots))), changes_of(pairs))


def torn_deed(form, newer, roots, value):
    """The deed that is torn before the roots change."""
    return (deed_name("t", newer, roots, value), guard_of(list(enumerate(roots))),
            changes_of(torn_pairs(form, roots, value)))


def free_block(form, roots):
    """The block with the least number to which neither root points."""
    return min([block for block in range(form.blocks) if block not in roots[BLOCK:BLOCK + ROOTS]])


def torn_pairs(form, roots, value):
    """The pair, as a list, of a cell and a value after only the new value was written."""
    return [(CONTENTS + free_block(form, roots), value)]


def updated_pairs(form, newer, roots):
    """The pairs of a cell and a value after the other root was made the newer one."""
    other = 1 - newer
    return [(other, (roots[newer] + 1) % GENERATIONS), (BLOCK + other, free_block(form, roots))]


def root_value(form, disk, *, former=False):
    """The value of the file on a disk, or its former value."""
    newer = newer_root(disk)
    root = 1 - newer if former else newer
    return disk[CONTENTS + disk[BLOCK + root]]


def root_update(form, disk, value, *, torn=False):
    """The disk after an update to a value, or after a torn update."""
    check_value(form.alphabet, value)
    pairs = torn_pairs(form, disk, value)
    if not torn:
        pairs = updated_pairs(form, newer_root(disk), disk) + pairs
    return disk_with(disk, pairs)


def root_piece(form, value, *, former=False):
    """The piece that a moment of a history has exactly if a value is the value of the file, or its former value."""
    check_value(form.alphabet, value)
    cells = root_cells(form)
    piece = []
    for newer in range(ROOTS):
        root = 1 - newer if former else newer
        for generation in range(GENERATIONS):
            generations = list(enumerate(generations_of(newer, generation)))
            piece.extend([sketch_of(cells, generations + [(BLOCK + root, block), (CONTENTS + block, value)])
                          for block in range(form.blocks)])
    return piece
