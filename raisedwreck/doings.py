"""Deeds that were done, and histories of few deeds (points 54 to 56)."""

from raisedwreck.explaining import explanation
from raisedwreck.machines import Machine, check_deed, check_question, check_sketch
from raisedwreck.reaching import Reach
from raisedwreck.regression import sketch_before
from raisedwreck.sketches import meets, without
from raisedwreck.telling import Answer, shortest_history, tell


def lacking(machine, deeds):
    """The machine that lacks the deeds with some numbers (point 54)."""
    for deed in deeds:
        check_deed(machine, deed)
    return Machine(machine.cells, [machine.deeds[deed] for deed in other_deeds(machine, deeds)], machine.first)


def other_deeds(machine, deeds):
    """The numbers of all deeds but some, in ascending order."""
    return [deed for deed in range(len(machine.deeds)) if deed not in deeds]


def tell_deeds(machine, image, deeds):
    """The Answer to the question whether a list of deeds is told for an image (point 54)."""
    check_sketch(machine, image)
    answer = tell(lacking(machine, deeds), image, [])
    if answer.told:
        return answer
    own = other_deeds(machine, deeds)
    return Answer(False, None, answer.disk, [own[deed] for deed in answer.deeds])


def told_deeds(machine, image):
    """The numbers of all deeds each of which is told for an image by itself, in ascending order."""
    found = explanation(machine, image)
    if found is None:
        return list(range(len(machine.deeds)))
    # A told deed is done in every history, so each history that is found leaves few to ask for.
    waiting = sorted(set(found[1]))
    told = []
    while waiting:
        answer = tell_deeds(machine, image, waiting[:1])
        if answer.told:
            told.append(waiting[0])
            waiting = waiting[1:]
        else:
            waiting = [deed for deed in waiting if deed in answer.deeds]
    return told


def last_deeds(machine, image):
    """The numbers of the last deeds of an image, in ascending order (point 55)."""
    check_sketch(machine, image)
    reach = Reach(machine, [])
    found = []
    for deed in range(len(machine.deeds)):
        earlier = sketch_before(machine, image, deed)
        if earlier is not None and reach.reaches([earlier]):
            found.append(deed)
    return found


def is_fresh(machine, image):
    """True if some first disk is in an image, otherwise False (point 55)."""
    check_sketch(machine, image)
    return meets(image, machine.first)


def tell_within(machine, image, piece, limit):
    """None if a piece is told within limit deeds for an image, otherwise a shortest history without it (point 56)."""
    check_question(machine, image, piece)
    return shortest_history(machine, without(image, piece), piece, limit)
