"""Sketches: sets of disks, written as one mask of values for each cell."""

from raisedwreck.errors import TooManyDisks

MOST_DISKS = 4096


def values_of(mask):
    """The values of a mask, in ascending order."""
    return [value for value in range(mask.bit_length()) if mask >> value & 1]


def contains(sketch, disk):
    """True if a disk is in a sketch, otherwise False."""
    for mask, value in zip(sketch, disk):
        if not mask >> value & 1:
            return False
    return True


def meet(a, b):
    """The meet of two sketches, or None if there is none."""
    common = tuple([x & y for x, y in zip(a, b)])
    if 0 in common:
        return None
    return common


def meets(a, b):
    """True if two sketches have a disk in common, otherwise False."""
    for x, y in zip(a, b):
        if not x & y:
            return False
    return True


def included(a, b):
    """True if the sketch a is included in the sketch b, otherwise False."""
    for x, y in zip(a, b):
        if x & ~y:
            return False
    return True


def without(a, piece):
    """What is left of a sketch without the sketches of a piece, a list of sketches (points 13 and 14)."""
    left = [a]
    for b in piece:
        left = [part for sketch in left for part in without_one(sketch, b)]
    return left


def without_one(a, b):
    """What is left of the sketch a without the sketch b (point 13)."""
    common = meet(a, b)
    if common is None:
        return [a]
    left = []
    for cell in range(len(a)):
        rest = a[cell] & ~b[cell]
        if rest:
            left.append(common[:cell] + (rest,) + a[cell + 1:])
    return left


def sketch_with(sketch, pairs):
    """A sketch with the masks of pairs of a cell and a mask in these cells."""
    masks = list(sketch)
    for cell, mask in pairs:
        masks[cell] = mask
    return tuple(masks)


def has_piece(piece, disk):
    """True if a disk has a piece, otherwise False."""
    for sketch in piece:
        if contains(sketch, disk):
            return True
    return False


def count_disks(sketch):
    """The number of the disks that are in a sketch."""
    disks = 1
    for mask in sketch:
        disks = disks * len(values_of(mask))
    return disks


def least_disk(sketch):
    """The disk in a sketch that has the least value in each cell."""
    return tuple([(mask & -mask).bit_length() - 1 for mask in sketch])


def all_disks(sketch):
    """The list of all disks in a sketch, in ascending order."""
    if count_disks(sketch) > MOST_DISKS:
        raise TooManyDisks("a sketch has too many disks to list them")
    disks = [()]
    for mask in sketch:
        values = values_of(mask)
        disks = [(*disk, value) for disk in disks for value in values]
    return disks
