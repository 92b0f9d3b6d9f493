"""What was there between two images of one disk, and which cells to read next (points 57 to 60)."""

from raisedwreck.judging import moments_into, places_hold, table_holds
from raisedwreck.machines import check_question, check_sketch, fits, moments
from raisedwreck.reaching import Reach
from raisedwreck.reports import has_way_through
from raisedwreck.sketches import contains, has_piece, meet, meets, sketch_with, values_of, without
from raisedwreck.telling import Search, kept_rows, kept_table, places, shelf_of_largest, write_table


class BetweenPaper:
    """A paper for a piece that is told between two images: two lists of sketches with their tables (point 58)."""

    def __init__(self, sketches, cover, table, links, roots, steps):
        self.sketches = kept_rows(sketches)
        self.cover = tuple(cover)
        self.table = kept_table(table)
        self.links = kept_rows(links)
        self.roots = kept_rows(roots)
        self.steps = kept_table(steps)

    def __eq__(self, other):
        return (isinstance(other, BetweenPaper) and self.sketches == other.sketches and self.cover == other.cover
                and self.table == other.table and self.links == other.links
                and self.roots == other.roots and self.steps == other.steps)


class BetweenAnswer:
    """The answer to the question whether a piece is told between two images: a paper, or a history against it."""

    def __init__(self, told, paper, disk, deeds, moment):
        self.told = told
        self.paper = paper
        self.disk = None if disk is None else tuple(disk)
        self.deeds = None if deeds is None else tuple(deeds)
        self.moment = moment

    def __eq__(self, other):
        return (isinstance(other, BetweenAnswer) and self.told == other.told and self.paper == other.paper
                and self.disk == other.disk and self.deeds == other.deeds and self.moment == other.moment)


def check_between(machine, earlier, later, piece):
    """Raise InvalidSketch if an image or a sketch of the piece is no sketch of the machine."""
    check_sketch(machine, earlier)
    check_question(machine, later, piece)


def tell_between(machine, earlier, later, piece):
    """The BetweenAnswer to the question whether a piece is told between two images (point 57)."""
    check_between(machine, earlier, later, piece)
    ending = Search(machine, piece)
    ending.go_back(without(later, piece), [])
    shelf = shelf_of_largest(machine, ending.shelf.sketches)
    search = Search(machine, [])
    start = search.go_back([part for sketch in shelf.sketches for part in earlier_parts(sketch, earlier)],
                           [machine.first])
    if start is None:
        paper = write_between_paper(machine, earlier, later, piece, shelf, search.shelf.sketches)
        return BetweenAnswer(True, paper, None, None, None)
    disk, deeds = search.history_from(start)
    passing = moments(machine, disk, deeds)[-1]
    return BetweenAnswer(False, None, disk, deeds + ending.deeds_from_disk(passing), len(deeds))


def earlier_parts(sketch, earlier):
    """The list of the meet of a sketch with the earlier image, or no sketch if there is none."""
    common = meet(sketch, earlier)
    return [] if common is None else [common]


def write_between_paper(machine, earlier, later, piece, shelf, roots):
    """The BetweenPaper of the sketches on a shelf, which cover the later image, and the roots."""
    root_shelf = shelf_of_largest(machine, roots)
    links = [places(root_shelf, earlier_parts(sketch, earlier)) for sketch in shelf.sketches]
    return BetweenPaper(shelf.sketches, places(shelf, without(later, piece)), write_table(machine, piece, shelf),
                        links, root_shelf.sketches, write_table(machine, [], root_shelf))


def judge_between(machine, earlier, later, piece, paper):
    """True if a BetweenPaper is a paper for this question (point 58), otherwise False."""
    check_between(machine, earlier, later, piece)
    if not all([fits(machine.full, sketch) for sketch in paper.sketches + paper.roots]):
        return False
    if any([meets(sketch, machine.first) for sketch in paper.roots]):
        return False
    if not places_hold(without(later, piece), paper.cover, paper.sketches):
        return False
    return (table_holds(machine, piece, paper.sketches, paper.table)
            and links_hold(earlier, paper.sketches, paper.links, paper.roots)
            and table_holds(machine, [], paper.roots, paper.steps))


def links_hold(earlier, sketches, links, roots):
    """True if links say for each of the sketches in which root its meet with the earlier image is included."""
    if len(links) != len(sketches):
        return False
    for sketch, entry in zip(sketches, links):
        if not places_hold(earlier_parts(sketch, earlier), entry, roots):
            return False
    return True


def judge_passage(machine, earlier, later, piece, disk, deeds, moment):
    """True if a history with a moment shows that a piece is not told between two images (point 59)."""
    check_between(machine, earlier, later, piece)
    disks = moments_into(machine, later, disk, deeds)
    if disks is None or not 0 <= moment < len(disks) or not contains(earlier, disks[moment]):
        return False
    return not any([has_piece(piece, passing) for passing in disks[moment:]])


def deciding_cells(machine, image, piece):
    """The numbers of all cells that decide a piece for an image, in ascending order (point 60)."""
    check_question(machine, image, piece)
    doubt = Doubt(machine, piece)
    if not doubt.remains(image):
        # What is sure of all disks of an image is sure of those with one value in a cell.
        return list(range(len(image)))
    return [cell for cell in range(len(image)) if doubt.ends_by(image, cell)]


class Doubt:
    """Asking for many images whether the judgement on a piece is the word possible."""

    def __init__(self, machine, piece):
        self.piece = piece
        self.having_none = Reach(machine, piece)
        self.having_any = Reach(machine, [])

    def remains(self, image):
        """True if some, but not all histories that end in an image have the piece, otherwise False."""
        return (self.having_none.reaches(without(image, self.piece))
                and has_way_through(self.having_any, image, self.piece))

    def ends_by(self, image, cell):
        """True if a cell decides the piece for an image for which the doubt remains, otherwise False."""
        for value in values_of(image[cell]):
            narrow = sketch_with(image, [(cell, 1 << value)])
            if narrow == image or self.remains(narrow):
                return False
        return True
