"""Explaining an image: a history, how many there are, a core and what can be read (points 27 to 30)."""

from raisedwreck.counting import count_ways
from raisedwreck.errors import InvalidSketch, NotContradictory
from raisedwreck.machines import ascend, check_sketch, moments
from raisedwreck.reaching import Reach
from raisedwreck.sketches import all_disks, sketch_with, without
from raisedwreck.telling import shortest_history


def explanation(machine, image):
    """The first disk and the deeds of a shortest history that ends in an image, or None if it is contradictory."""
    check_sketch(machine, image)
    return shortest_history(machine, [image], [])


def count_histories(machine, image, length):
    """The number of histories of length deeds that end in an image (point 29)."""
    check_sketch(machine, image)
    return count_ways(machine, image, length)


def core(machine, image):
    """The core of a contradictory image, a list of numbers of cells (point 28)."""
    check_sketch(machine, image)
    reach = Reach(machine, [])
    if reach.reaches([image]):
        raise NotContradictory("some history ends in the image")
    return needed_cells(reach, image)


def needed_cells(reach, image):
    """The core of a contradictory image, with the Reach without the empty piece."""
    kept = []
    wide = image
    for cell in range(len(image)):
        wider = sketch_with(wide, [(cell, reach.machine.full[cell])])
        if reach.reaches([wider]):
            kept.append(cell)
        else:
            wide = wider
    return kept


def told_readings(machine, image, cells):
    """The list of all told readings of some cells, in ascending order (point 30)."""
    check_sketch(machine, image)
    if not ascend(machine.full, cells):
        raise InvalidSketch("the cells do not ascend, or one does not exist")
    waiting = all_disks(tuple([machine.full[cell] for cell in cells]))
    found = explanation(machine, image)
    if found is None:
        return waiting
    # A told reading occurs in every history, so each history that is found leaves few to ask for.
    waiting = readings_on(machine, found, cells, waiting)
    told = []
    while waiting:
        piece = [reading_sketch(machine, cells, waiting[0])]
        found = shortest_history(machine, without(image, piece), piece)
        if found is None:
            told.append(waiting[0])
            waiting = waiting[1:]
        else:
            waiting = readings_on(machine, found, cells, waiting)
    return told


def reading_sketch(machine, cells, reading):
    """The sketch of all disks with a reading of some cells."""
    return sketch_with(machine.full, [(cell, 1 << value) for cell, value in zip(cells, reading)])


def readings_on(machine, history, cells, readings):
    """Those of the readings of some cells that occur at some moment of a history."""
    disk, deeds = history
    seen = {tuple([moment[cell] for cell in cells]): True for moment in moments(machine, disk, deeds)}
    return [reading for reading in readings if reading in seen]
