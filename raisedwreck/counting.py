"""Counting histories: forward over disks and back over sketches, where the fewer are."""

from raisedwreck.machines import allows, changed
from raisedwreck.regression import sketch_before
from raisedwreck.shelves import Shelf
from raisedwreck.sketches import MOST_DISKS, all_disks, count_disks, meet, meets


def count_ways(machine, image, length):
    """The number of histories of length deeds that end in an image (point 29)."""
    if count_disks(machine.first) > MOST_DISKS:
        return count_far_ways(machine, image, length)
    starts = {disk: 1 for disk in all_disks(machine.first)}
    ends = {image: 1}
    for _ in range(length):
        # One disk may have many ways forward and one sketch many ways back, so the smaller side goes on.
        if len(starts) < len(ends):
            starts = disks_after(machine, starts)
        else:
            ends = sketches_before(machine, ends)
    return count_joined(machine, starts, ends)


def count_far_ways(machine, image, length):
    """As count_ways, only going back, for more first disks than a list may have."""
    ends = {image: 1}
    for _ in range(length):
        ends = sketches_before(machine, ends)
    return sum([ends[sketch] * count_disks(meet(sketch, machine.first))
                for sketch in ends if meets(sketch, machine.first)])


def disks_after(machine, starts):
    """The disks after one deed more, each with the number of ways that lead to it."""
    later = {}
    for disk, ways in starts.items():
        for deed in machine.deeds:
            if allows(deed, disk):
                new = changed(deed, disk)
                later[new] = later.get(new, 0) + ways
    return later


def sketches_before(machine, ends):
    """The sketches before one deed more, each with the number of ways that lead on from it."""
    earlier = {}
    for sketch, ways in ends.items():
        for deed in range(len(machine.deeds)):
            new = sketch_before(machine, sketch, deed)
            if new is not None:
                earlier[new] = earlier.get(new, 0) + ways
    return earlier


def count_joined(machine, starts, ends):
    """The number of ways to the disks that go on with a way from a sketch in which the disk is."""
    shelf = Shelf(machine.full)
    for sketch in ends:
        shelf.put(sketch)
    return sum([ways * ends[sketch] for disk, ways in starts.items() for sketch in shelf.holding(disk)])
