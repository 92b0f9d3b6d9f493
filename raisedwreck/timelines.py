"""Order in time: whether one piece was there before another one (points 23 to 26)."""

from raisedwreck.judging import moments_into, places_hold, table_holds
from raisedwreck.machines import check_question, fits, moments
from raisedwreck.sketches import has_piece, meet, meets, without
from raisedwreck.telling import Search, kept_rows, kept_table, places, shelf_of_largest, shortest_history, write_table


class OrderPaper:
    """A paper for a told order: two lists of sketches with their tables and two covers (point 24)."""

    def __init__(self, reach, cover, table, sketches, links, steps):
        self.reach = kept_rows(reach)
        self.cover = tuple(cover)
        self.table = kept_table(table)
        self.sketches = kept_rows(sketches)
        self.links = kept_rows(links)
        self.steps = kept_table(steps)

    def __eq__(self, other):
        return (isinstance(other, OrderPaper) and self.reach == other.reach and self.cover == other.cover
                and self.table == other.table and self.sketches == other.sketches
                and self.links == other.links and self.steps == other.steps)


class OrderAnswer:
    """The answer to the question whether an order is told: a paper, or a history and a moment against it."""

    def __init__(self, told, paper, disk, deeds, moment):
        self.told = told
        self.paper = paper
        self.disk = None if disk is None else tuple(disk)
        self.deeds = None if deeds is None else tuple(deeds)
        self.moment = moment

    def __eq__(self, other):
        return (isinstance(other, OrderAnswer) and self.told == other.told and self.paper == other.paper
                and self.disk == other.disk and self.deeds == other.deeds and self.moment == other.moment)


def check_order(machine, image, early, late):
    """Raise InvalidSketch if the image or a sketch of a piece is no sketch of the machine."""
    check_question(machine, image, early)
    check_question(machine, image, late)


def tell_order(machine, image, early, late):
    """The OrderAnswer to the question whether the order of two pieces is told for an image (point 23)."""
    check_order(machine, image, early, late)
    ending = Search(machine, [])
    ending.go_back([image], [])
    reach = shelf_of_largest(machine, ending.shelf.sketches)
    search = Search(machine, early)
    parts = [part for sketch in reach.sketches for part in late_parts(sketch, early, late)]
    start = search.go_back(parts, [machine.first])
    if start is None:
        paper = write_order_paper(machine, early, late, reach, places(reach, [image]), search.shelf.sketches)
        return OrderAnswer(True, paper, None, None, None)
    disk, deeds = search.history_from(start)
    last = moments(machine, disk, deeds)[-1]
    return OrderAnswer(False, None, disk, deeds + ending.deeds_from_disk(last), len(deeds))


def late_parts(sketch, early, late):
    """What is left, without the early piece, of the meets of a sketch with the sketches of the late piece."""
    common = [meet(sketch, other) for other in late if meets(sketch, other)]
    return [part for other in common for part in without(other, early)]


def write_order_paper(machine, early, late, reach, cover, sketches):
    """The OrderPaper of the sketches on the shelf reach, their cover, and the sketches of the second list."""
    shelf = shelf_of_largest(machine, sketches)
    links = [places(shelf, late_parts(sketch, early, late)) for sketch in reach.sketches]
    return OrderPaper(reach.sketches, cover, write_table(machine, [], reach),
                      shelf.sketches, links, write_table(machine, early, shelf))


def judge_order(machine, image, early, late, paper):
    """True if an OrderPaper is a paper for this question (point 24), otherwise False."""
    check_order(machine, image, early, late)
    if not all([fits(machine.full, sketch) for sketch in paper.reach + paper.sketches]):
        return False
    if any([meets(sketch, machine.first) for sketch in paper.sketches]):
        return False
    if not places_hold([image], paper.cover, paper.reach) or not table_holds(machine, [], paper.reach, paper.table):
        return False
    return (links_hold(early, late, paper.reach, paper.links, paper.sketches)
            and table_holds(machine, early, paper.sketches, paper.steps))


def links_hold(early, late, reach, links, sketches):
    """True if links are a second cover, from the sketches of the first list to those of the second one."""
    if len(links) != len(reach):
        return False
    for sketch, entry in zip(reach, links):
        if not places_hold(late_parts(sketch, early, late), entry, sketches):
            return False
    return True


def judge_moment(machine, image, early, late, disk, deeds, moment):
    """True if a history with a moment shows that an order is not told (point 25), otherwise False."""
    check_order(machine, image, early, late)
    disks = moments_into(machine, image, disk, deeds)
    if disks is None or not 0 <= moment < len(disks):
        return False
    if any([has_piece(early, earlier) for earlier in disks[:moment + 1]]):
        return False
    return has_piece(late, disks[moment])


def told_at_end(machine, image, piece):
    """True if every history that ends in an image has the piece at its last moment (point 26), otherwise False."""
    check_question(machine, image, piece)
    return shortest_history(machine, without(image, piece), []) is None
