"""A machine inside of another one (point 61)."""

from raisedwreck.errors import InvalidMachine
from raisedwreck.machines import Machine, check_sketch, is_guard
from raisedwreck.sketches import sketch_with


def inside(outer, inner, places, guard):
    """The machine with the inner machine inside of the outer one."""
    check_places(outer, inner, places)
    if not is_guard(outer.full, guard):
        raise InvalidMachine("this is no guard of the outer machine")
    for cell, mask in guard:
        if cell in places:
            raise InvalidMachine("a cell of the guard is a place")
    deeds = [("x" + name, own_guard, changes) for name, own_guard, changes in outer.deeds]
    deeds.extend([placed_deed(deed, places, guard) for deed in inner.deeds])
    return Machine(outer.cells, deeds, outer.first)


def check_places(outer, inner, places):
    """Raise InvalidMachine if not each cell of the inner machine has a place of its own in the outer one."""
    if len(places) != len(inner.cells):
        raise InvalidMachine("the inner machine has not as many cells as there are places")
    for place, (name, size) in zip(places, inner.cells):
        if not 0 <= place < len(outer.cells):
            raise InvalidMachine("a place is no cell of the outer machine")
        if outer.cells[place][1] != size:
            raise InvalidMachine(f"the place of the cell {name} has another size")
    if len(set(places)) < len(places):
        raise InvalidMachine("two cells have the same place")


def placed_deed(deed, places, guard):
    """A deed of the inner machine as a deed of the outer one, with the pairs of a guard."""
    name, own_guard, changes = deed
    pairs = [(places[cell], mask) for cell, mask in own_guard]
    return ("y" + name, tuple(sorted([*pairs, *guard])),
            tuple(sorted([(places[cell], placed_source(source, places)) for cell, source in changes])))


def placed_source(source, places):
    """The source of a change of the inner machine as one of the outer machine."""
    word, number = source
    if word == "copy":
        return (word, places[number])
    return source


def inner_sketch(outer, inner, places, sketch):
    """The sketch of the outer machine that a sketch of the inner one becomes."""
    check_sketch(inner, sketch)
    return sketch_with(outer.full, [(place, mask) for place, mask in zip(places, sketch)])
