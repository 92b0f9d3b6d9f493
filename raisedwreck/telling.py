"""Telling whether every history that ends in an image has a piece, with a paper for each answer."""

from raisedwreck.machines import check_question
from raisedwreck.regression import left_before, sketch_before
from raisedwreck.shelves import Shelf, put_largest_first
from raisedwreck.sketches import least_disk, meet, meets, without


class Paper:
    """A paper for a told piece: a list of sketches, a cover and a table (point 20)."""

    def __init__(self, sketches, cover, table):
        self.sketches = tuple([tuple(sketch) for sketch in sketches])
        self.cover = tuple(cover)
        self.table = tuple([tuple([tuple(entry) for entry in row]) for row in table])

    def __eq__(self, other):
        return (isinstance(other, Paper) and self.sketches == other.sketches
                and self.cover == other.cover and self.table == other.table)


class Answer:
    """The answer to the question whether a piece is told: a paper, or a history without the piece."""

    def __init__(self, told, paper, disk, deeds):
        self.told = told
        self.paper = paper
        self.disk = None if disk is None else tuple(disk)
        self.deeds = None if deeds is None else tuple(deeds)

    def __eq__(self, other):
        return (isinstance(other, Answer) and self.told == other.told and self.paper == other.paper
                and self.disk == other.disk and self.deeds == other.deeds)


def tell(machine, image, piece):
    """The Answer to the question whether a piece is told for an image (point 19)."""
    check_question(machine, image, piece)
    search = Search(machine, piece)
    start = search.go_back(image, machine.first)
    if start is None:
        return Answer(True, write_paper(machine, image, piece, search.shelf.sketches), None, None)
    return Answer(False, None, least_disk(meet(start, machine.first)), search.deeds_from(start))


class Search:
    """The sketches from whose disks deeds lead into an image without a piece.

    For each of them, steps has the deed and the sketch to which it leads, or
    None if the sketch itself is a part of the image.
    """

    def __init__(self, machine, piece):
        self.machine = machine
        self.piece = piece
        self.shelf = Shelf(machine.full)
        self.steps = {}

    def go_back(self, image, goal):
        """Go back from an image to a sketch that meets the goal, and return it, or None if there is none.

        The sketches are found in the order of the number of deeds on the way to the
        image, so no way that is shorter leads there from the goal.
        """
        steps = {part: None for part in without(image, self.piece)}
        while steps:
            news = put_largest_first(self.shelf, list(steps))
            for sketch in news:
                self.steps[sketch] = steps[sketch]
            for sketch in news:
                if meets(sketch, goal):
                    return sketch
            steps = self.steps_before(news)
        return None

    def steps_before(self, sketches):
        """The steps that lead to the sketches from what is left before them and is not on the shelf."""
        steps = {}
        for sketch in sketches:
            for deed in range(len(self.machine.deeds)):
                earlier = sketch_before(self.machine, sketch, deed)
                if earlier is None or self.shelf.place(earlier) >= 0:
                    continue
                for part in without(earlier, self.piece):
                    steps.setdefault(part, (deed, sketch))
        return steps

    def deeds_from(self, sketch):
        """The deeds that lead from each disk of a sketch that was found to a disk of the image."""
        deeds = []
        step = self.steps[sketch]
        while step is not None:
            deed, later = step
            deeds.append(deed)
            step = self.steps[later]
        return deeds


def write_paper(machine, image, piece, sketches):
    """The Paper of sketches that cover the image and are closed, both without the piece."""
    # Smaller sketches that were found before the larger ones would only make the table longer.
    shelf = Shelf(machine.full)
    kept = put_largest_first(shelf, sketches)
    cover = [shelf.place(part) for part in without(image, piece)]
    table = [[[shelf.place(part) for part in left_before(machine, sketch, deed, piece)]
              for deed in range(len(machine.deeds))] for sketch in kept]
    return Paper(kept, cover, table)
