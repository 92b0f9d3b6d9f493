"""Judgements on pieces, and the report on an image (points 48 and 49)."""

from raisedwreck.explaining import needed_cells
from raisedwreck.machines import check_question, check_sketch
from raisedwreck.reaching import Reach
from raisedwreck.sketches import meet, meets, without
from raisedwreck.telling import Search

CONTRADICTORY = "contradictory"
TOLD = "told"
POSSIBLE = "possible"
IMPOSSIBLE = "impossible"


def possible(machine, image, piece):
    """True if some history that ends in an image has the piece, otherwise False (point 48)."""
    check_question(machine, image, piece)
    return has_way_through(Reach(machine, []), image, piece)


def has_way_through(reach, image, piece):
    """True if some history that ends in an image has the piece, with the Reach without the empty piece."""
    ending = Search(reach.machine, [])
    steps = {image: None}
    while steps:
        news = ending.put(steps)
        # To ask in each round, not at the end, often saves most of the rounds.
        if reach.reaches([meet(sketch, other) for sketch in news for other in piece if meets(sketch, other)]):
            return True
        steps = ending.steps_before(news)
    return False


def judgement(machine, image, piece):
    """The judgement on a piece, a string (point 48)."""
    check_question(machine, image, piece)
    reach = Reach(machine, [])
    if not reach.reaches([image]):
        return CONTRADICTORY
    return judgement_on(reach, image, piece)


def judgement_on(reach, image, piece):
    """The judgement on a piece for an image that is not contradictory, with the Reach without the empty piece."""
    if not Reach(reach.machine, piece).reaches(without(image, piece)):
        return TOLD
    if has_way_through(reach, image, piece):
        return POSSIBLE
    return IMPOSSIBLE


def report(machine, image, questions):
    """The report on an image for pairs of a label and a piece, a text (point 49)."""
    check_sketch(machine, image)
    for label, piece in questions:
        check_question(machine, image, piece)
    reach = Reach(machine, [])
    if not reach.reaches([image]):
        names = [machine.cells[cell][0] for cell in needed_cells(reach, image)]
        return " ".join([CONTRADICTORY] + names) + "\n"
    return "".join([f"{label}: {judgement_on(reach, image, piece)}\n" for label, piece in questions])
