"""Texts of machines read loosely, and texts with mistakes, for the tests of what reads them."""

from raisedwreck.machines import Machine


def mask_of(values):
    """The mask of values; values far beyond those of a cell are taken as one that is just too large."""
    return sum(1 << min(int(value), 99) for value in values)


def loosely_read(lines):
    """A machine that lines might mean, with no look at their order; it fails in any way if there is none."""
    cells, first, deeds, numbers = [], {}, [], {}
    for line in lines:
        word, name, *rest = line.split(" ")
        if word == "cell":
            numbers[name] = len(cells)
            cells.append((name, int(rest[0])))
        elif word == "first":
            first[numbers[name]] = mask_of(rest)
        elif word == "deed":
            deeds.append((name, [], []))
        elif word == "when":
            deeds[-1][1].append((numbers[name], mask_of(rest)))
        else:
            source = int(rest[0]) if word == "set" else numbers[rest[0]]
            deeds[-1][2].append((numbers[name], (word, source)))
    masks = [first.get(number, mask_of(range(min(size, 99)))) for number, (_, size) in enumerate(cells)]
    return Machine(cells, [(name, tuple(guard), tuple(changes)) for name, guard, changes in deeds], tuple(masks))


def spoilt(dice, text):
    """A text in which some characters, words or lines are left out, doubled or exchanged."""
    mark = dice.choice(["", " ", "\n"])
    pieces = list(text) if mark == "" else text.split(mark)
    at = dice.randrange(len(pieces)) if pieces else 0
    other = dice.randrange(len(pieces)) if pieces else 0
    way = dice.randrange(4)
    if not pieces:
        return text
    if way == 0:
        del pieces[at]
    elif way == 1:
        pieces.insert(at, pieces[other])
    elif way == 2:
        pieces[at], pieces[other] = pieces[other], pieces[at]
    else:
        pieces[at] = pieces[other]
    return mark.join(pieces)
