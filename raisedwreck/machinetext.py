"""Machines as text (points 10 and 11)."""

from raisedwreck.errors import MachineSyntaxError
from raisedwreck.machines import MOST_CELLS, MOST_DEEDS, MOST_VALUES, Machine, is_name
from raisedwreck.sketches import values_of

DIGITS = "0123456789"
LONGEST_NUMBER = 9


def format_machine(machine):
    """The text of a machine."""
    lines = [f"cell {name} {size}" for name, size in machine.cells]
    lines.extend(mask_lines("first", machine, machine.first))
    names = [name for name, size in machine.cells]
    for deed in machine.deeds:
        lines.extend(deed_lines(names, deed))
    return "".join([line + "\n" for line in lines])


def mask_lines(word, machine, sketch):
    """The lines with a word for the cells whose masks in a sketch of the machine are not the sets of all values."""
    return [f"{word} {name} {format_mask(mask)}"
            for (name, size), mask, most in zip(machine.cells, sketch, machine.full) if mask != most]


def deed_lines(names, deed):
    """The lines of a deed of a machine whose cells have these names."""
    name, guard, changes = deed
    lines = [f"deed {name}"]
    for cell, mask in guard:
        lines.append(f"when {names[cell]} {format_mask(mask)}")
    for cell, (word, number) in changes:
        source = names[number] if word == "copy" else number
        lines.append(f"{word} {names[cell]} {source}")
    return lines


def format_mask(mask):
    """The values of a mask as words."""
    return " ".join([str(value) for value in values_of(mask)])


def parse_machine(text):
    """The machine that a text writes."""
    lines = text.split("\n")
    rest = lines.pop()
    draft = Draft()
    for index, line in enumerate(lines):
        if not take_line(draft, line):
            raise MachineSyntaxError(index)
    if rest or not draft.cells:
        raise MachineSyntaxError(len(lines))
    return draft.written()


class Draft:
    """What the lines so far have written of a machine; at each time this is a machine, if it has a cell."""

    def __init__(self):
        self.cells = []
        self.numbers = {}
        self.masks = []
        self.deeds = []
        self.deed_names = {}

    def size(self, cell):
        """The size of the cell with a number."""
        return self.cells[cell][1]

    def next_cell(self, pairs, name):
        """The number of the cell with a name, or -1 if there is none or it does not ascend from the pairs."""
        number = self.numbers.get(name, -1)
        if pairs and number <= pairs[-1][0]:
            return -1
        return number

    def next_pair(self, pairs, words):
        """The pair of a cell and a mask that words write, or None if they do not, or it cannot follow the pairs."""
        cell = self.next_cell(pairs, words[0]) if words else -1
        if cell < 0:
            return None
        mask = read_mask(words[1:], self.size(cell))
        return (cell, mask) if mask else None

    def next_part(self, pairs, words):
        """As next_pair, but None also for the mask of all values."""
        pair = self.next_pair(pairs, words)
        if pair is None or pair[1] == (1 << self.size(pair[0])) - 1:
            return None
        return pair

    def written(self):
        """The machine that the lines write."""
        first = [(1 << size) - 1 for name, size in self.cells]
        for cell, mask in self.masks:
            first[cell] = mask
        return Machine(self.cells, self.deeds, tuple(first))


def take_cell(draft, words):
    """Take the rest of a line with the word cell; False if it cannot stand here."""
    if len(words) != 2 or draft.masks or draft.deeds or len(draft.cells) == MOST_CELLS:
        return False
    name = words[0]
    size = read_number(words[1])
    if not is_name(name) or name in draft.numbers or not 1 <= size <= MOST_VALUES:
        return False
    draft.numbers[name] = len(draft.cells)
    draft.cells.append((name, size))
    return True


def take_first(draft, words):
    """Take the rest of a line with the word first; False if it cannot stand here."""
    pair = draft.next_part(draft.masks, words)
    if pair is None or draft.deeds:
        return False
    draft.masks.append(pair)
    return True


def take_deed(draft, words):
    """Take the rest of a line with the word deed; False if it cannot stand here."""
    if len(words) != 1 or not draft.cells or len(draft.deeds) == MOST_DEEDS:
        return False
    name = words[0]
    if not is_name(name) or name in draft.deed_names:
        return False
    draft.deed_names[name] = True
    draft.deeds.append((name, (), ()))
    return True


def take_when(draft, words):
    """Take the rest of a line with the word when; False if it cannot stand here."""
    if not draft.deeds:
        return False
    name, guard, changes = draft.deeds[-1]
    pair = draft.next_pair(guard, words)
    if pair is None or changes:
        return False
    draft.deeds[-1] = (name, guard + (pair,), changes)
    return True


def take_set(draft, words):
    """Take the rest of a line with the word set; False if it cannot stand here."""
    if len(words) != 2 or not draft.deeds:
        return False
    name, guard, changes = draft.deeds[-1]
    cell = draft.next_cell(changes, words[0])
    value = read_number(words[1])
    if cell < 0 or not 0 <= value < draft.size(cell):
        return False
    draft.deeds[-1] = (name, guard, changes + ((cell, ("set", value)),))
    return True


def take_copy(draft, words):
    """Take the rest of a line with the word copy; False if it cannot stand here."""
    if len(words) != 2 or not draft.deeds:
        return False
    name, guard, changes = draft.deeds[-1]
    cell = draft.next_cell(changes, words[0])
    other = draft.numbers.get(words[1], -1)
    if cell < 0 or other < 0 or draft.size(other) > draft.size(cell):
        return False
    draft.deeds[-1] = (name, guard, changes + ((cell, ("copy", other)),))
    return True


TAKERS = {
    "cell": take_cell,
    "first": take_first,
    "deed": take_deed,
    "when": take_when,
    "set": take_set,
    "copy": take_copy,
}


def take_line(draft, line):
    """Take a line into a draft; False, and no change, if the line cannot stand behind those before it."""
    words = line.split(" ")
    if words[0] not in TAKERS:
        return False
    taker = TAKERS[words[0]]
    return taker(draft, words[1:])


def read_mask(words, size):
    """The mask of the values below size that words write in ascending order, or 0 if they do not."""
    mask = 0
    for word in words:
        value = read_number(word)
        if not 0 <= value < size or mask >> value:
            return 0
        mask = mask | (1 << value)
    return mask


def read_number(word):
    """The number of at most nine digits that a word writes without leading zeros, or -1 if it does not."""
    if not 1 <= len(word) <= LONGEST_NUMBER or not all([digit in DIGITS for digit in word]):
        return -1
    if word[0] == "0" and word != "0":
        return -1
    return int(word)
