"""Two machines side by side (points 50 and 51)."""

from raisedwreck.machines import Machine, check_sketch


def side_by_side(first, second):
    """The machine of two machines side by side (point 50)."""
    cells = named_cells("x", first.cells) + named_cells("y", second.cells)
    behind = len(first.cells)
    deeds = [moved_deed("x", 0, deed) for deed in first.deeds]
    deeds.extend([moved_deed("y", behind, deed) for deed in second.deeds])
    return Machine(cells, deeds, first.first + second.first)


def named_cells(letter, cells):
    """Cells with a letter in front of their names."""
    return [(letter + name, size) for name, size in cells]


def moved_deed(letter, behind, deed):
    """A deed with a letter in front of its name, whose cells stand behind some others."""
    name, guard, changes = deed
    return (letter + name, tuple([(behind + cell, mask) for cell, mask in guard]),
            tuple([(behind + cell, moved_source(behind, source)) for cell, source in changes]))


def moved_source(behind, source):
    """The source of a change, if the cells stand behind some others."""
    word, number = source
    if word == "copy":
        return (word, behind + number)
    return source


def widened(first, second, sketch, *, of_second=False):
    """The sketch of both machines that a sketch of one of them becomes (point 50)."""
    if of_second:
        check_sketch(second, sketch)
        return first.full + sketch
    check_sketch(first, sketch)
    return sketch + second.full
