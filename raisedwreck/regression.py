"""Going back: the disks from which a deed leads into a sketch."""

from raisedwreck.machines import check_deed, check_sketch
from raisedwreck.sketches import without


def before(machine, sketch, deed):
    """The sketch before the deed with a number, or None if there is none (point 16)."""
    check_sketch(machine, sketch)
    check_deed(machine, deed)
    return sketch_before(machine, sketch, deed)


def sketch_before(machine, sketch, deed):
    """As before, for a sketch and a deed that surely belong to the machine."""
    _, guard, changes = machine.deeds[deed]
    masks = list(sketch)
    for cell, (word, number) in changes:
        if word == "set" and not sketch[cell] >> number & 1:
            return None
        masks[cell] = machine.full[cell]
    # The old value of a cell may be copied although the cell is changed itself.
    for cell, (word, number) in changes:
        if word == "copy":
            masks[number] = masks[number] & sketch[cell]
    for cell, mask in guard:
        masks[cell] = masks[cell] & mask
    if 0 in masks:
        return None
    return tuple(masks)


def left_before(machine, sketch, deed, piece):
    """What is left of the sketch before a deed without a piece; nothing if there is no sketch before."""
    earlier = sketch_before(machine, sketch, deed)
    if earlier is None:
        return []
    return without(earlier, piece)
