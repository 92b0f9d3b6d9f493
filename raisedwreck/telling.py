"""Telling whether every history that ends in an image has a piece, with a paper for each answer."""

from raisedwreck.machines import check_question
from raisedwreck.regression import left_before, sketch_before
from raisedwreck.shelves import Shelf, put_largest_first
from raisedwreck.sketches import least_disk, meet, meets, without


def kept_rows(rows):
    """Rows of numbers as a tuple of tuples."""
    return tuple([tuple(row) for row in rows])


def kept_table(table):
    """Rows of rows of numbers as a tuple of tuples of tuples."""
    return tuple([kept_rows(row) for row in table])


class Paper:
    """A paper for a told piece: a list of sketches, a cover and a table (point 20)."""

    def __init__(self, sketches, cover, table):
        self.sketches = kept_rows(sketches)
        self.cover = tuple(cover)
        self.table = kept_table(table)

    def __eq__(self, other):
        return (isinstance(other, Paper) and self.sketches == other.sketches
                and self.cover == other.cover and self.table == other.table)


class Answer:
    """The answer to the question whether a piece is told: a paper, or a history without the piece."""

    def __init__(self, told, paper, disk, deeds):
        self.told = told
        self.paper = paper
        self.disk = None if disk is None else tuple(disk)
        self.deeds = None if deeds is None else tuple(deeds)

    def __eq__(self, other):
        return (isinstance(other, Answer) and self.told == other.told and self.paper == other.paper
                and self.disk == other.disk and self.deeds == other.deeds)


def tell(machine, image, piece):
    """The Answer to the question whether a piece is told for an image (point 19)."""
    check_question(machine, image, piece)
    search = Search(machine, piece)
    start = search.go_back(without(image, piece), [machine.first])
    if start is None:
        return Answer(True, write_paper(machine, image, piece, search.shelf.sketches), None, None)
    disk, deeds = search.history_from(start)
    return Answer(False, None, disk, deeds)


def shortest_history(machine, parts, piece, limit=None):
    """The first disk and the deeds of a history without the piece that ends in one of the parts, or None.

    The parts are sketches whose disks do not have the piece. No such history has fewer deeds;
    if there is a limit, it has at most so many.
    """
    search = Search(machine, piece)
    start = search.go_back(parts, [machine.first], limit)
    if start is None:
        return None
    return search.history_from(start)


class Search:
    """The sketches from whose disks deeds lead into some parts without a piece.

    For each of them, steps has the deed and the sketch to which it leads, or
    None if the sketch itself is one of the parts.
    """

    def __init__(self, machine, piece):
        self.machine = machine
        self.piece = piece
        self.shelf = Shelf(machine.full)
        self.steps = {}

    def go_back(self, parts, goals, limit=None):
        """Go back from the parts to a sketch that meets one of the goals, and return it, or None if there is none.

        The sketches are found in the order of the number of deeds on the way to the parts,
        so no way that is shorter leads there from a goal. Without a goal, all sketches are
        found; if there is a limit, those on ways of at most so many deeds.
        """
        steps = {part: None for part in parts}
        deeds = 0
        while steps:
            news = self.put(steps)
            for sketch in news:
                if any([meets(sketch, goal) for goal in goals]):
                    return sketch
            if deeds == limit:
                return None
            deeds += 1
            steps = self.steps_before(news)
        return None

    def put(self, steps):
        """Put the sketches of steps on the shelf that are in no other one, and return the list of them."""
        news = put_largest_first(self.shelf, list(steps))
        for sketch in news:
            self.steps[sketch] = steps[sketch]
        return news

    def steps_before(self, sketches):
        """The steps that lead to the sketches from what is left before them and is not on the shelf."""
        steps = {}
        for sketch in sketches:
            for deed in range(len(self.machine.deeds)):
                earlier = sketch_before(self.machine, sketch, deed)
                if earlier is None or self.shelf.place(earlier) >= 0:
                    continue
                for part in without(earlier, self.piece):
                    steps.setdefault(part, (deed, sketch))
        return steps

    def deeds_from(self, sketch):
        """The deeds that lead from each disk of a sketch that was found to a disk of the parts."""
        deeds = []
        step = self.steps[sketch]
        while step is not None:
            deed, later = step
            deeds.append(deed)
            step = self.steps[later]
        return tuple(deeds)

    def deeds_from_disk(self, disk):
        """The deeds that lead from a disk of a sketch that was found to a disk of the parts."""
        place = self.shelf.place(tuple([1 << value for value in disk]))
        return self.deeds_from(self.shelf.sketches[place])

    def history_from(self, sketch):
        """A first disk in a sketch that was found, and the deeds that lead from it to a disk of the parts."""
        return least_disk(meet(sketch, self.machine.first)), self.deeds_from(sketch)


def write_paper(machine, image, piece, sketches):
    """The Paper of sketches that cover the image and are closed, both without the piece."""
    shelf = shelf_of_largest(machine, sketches)
    return Paper(shelf.sketches, places(shelf, without(image, piece)), write_table(machine, piece, shelf))


def shelf_of_largest(machine, sketches):
    """A shelf with those of the sketches that are included in no other one."""
    # Smaller sketches that were found before the larger ones would only make a table longer.
    shelf = Shelf(machine.full)
    put_largest_first(shelf, sketches)
    return shelf


def places(shelf, parts):
    """For each part, the index of a sketch on the shelf in which it is included."""
    return [shelf.place(part) for part in parts]


def write_table(machine, piece, shelf):
    """The table (point 20) of the sketches on a shelf, which are closed without the piece."""
    return [[places(shelf, left_before(machine, sketch, deed, piece)) for deed in range(len(machine.deeds))]
            for sketch in shelf.sketches]
