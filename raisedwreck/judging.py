"""Judging papers and histories, without trust in how they were found."""

from raisedwreck.errors import CannotDo, InvalidDisk, NoSuchDeed
from raisedwreck.machines import check_question, fits, moments
from raisedwreck.regression import left_before
from raisedwreck.sketches import contains, has_piece, included, meets, without


def judge_paper(machine, image, piece, paper):
    """True if a Paper is a paper for the told piece (point 20), otherwise False."""
    check_question(machine, image, piece)
    for sketch in paper.sketches:
        if not fits(machine.full, sketch) or meets(sketch, machine.first):
            return False
    if not places_hold(without(image, piece), paper.cover, paper.sketches):
        return False
    return table_holds(machine, piece, paper.sketches, paper.table)


def table_holds(machine, piece, sketches, table):
    """True if a table shows that the sketches are closed without the piece, otherwise False."""
    if len(table) != len(sketches):
        return False
    for sketch, row in zip(sketches, table):
        if len(row) != len(machine.deeds):
            return False
        for deed, entry in enumerate(row):
            if not places_hold(left_before(machine, sketch, deed, piece), entry, sketches):
                return False
    return True


def places_hold(parts, places, sketches):
    """True if there is, for each part in order, the index of a sketch in which it is included, otherwise False."""
    if len(places) != len(parts):
        return False
    for part, place in zip(parts, places):
        if not 0 <= place < len(sketches) or not included(part, sketches[place]):
            return False
    return True


def judge_history(machine, image, piece, disk, deeds):
    """True if a history ends in the image and does not have the piece (point 22), otherwise False."""
    check_question(machine, image, piece)
    disks = moments_into(machine, image, disk, deeds)
    if disks is None:
        return False
    return not any([has_piece(piece, moment) for moment in disks])


def moments_into(machine, image, disk, deeds):
    """The moments of a history that ends in the image, or None if a disk and deeds are no such history."""
    try:
        disks = moments(machine, disk, deeds)
    except (InvalidDisk, NoSuchDeed, CannotDo):
        return None
    if not contains(image, disks[-1]):
        return None
    return disks
