"""Papers as text (points 52 and 53)."""

from raisedwreck.errors import PaperSyntaxError
from raisedwreck.machinetext import read_number
from raisedwreck.telling import Paper

LARGEST_MASK = 65535


def format_paper(paper):
    """The text of a paper."""
    lines = [numbers_line("sketch", sketch) for sketch in paper.sketches]
    lines.append(numbers_line("cover", paper.cover))
    for index, row in enumerate(paper.table):
        for deed, entry in enumerate(row):
            if entry:
                lines.append(numbers_line("row", (index, deed, *entry)))
    return "".join(lines)


def numbers_line(word, numbers):
    """A line with a word and numbers."""
    return " ".join([word] + [str(number) for number in numbers]) + "\n"


def parse_paper(machine, text):
    """The Paper that a text writes for a machine."""
    lines = text.split("\n")
    if lines.pop() != "":
        raise PaperSyntaxError("the text does not end with a line feed")
    draft = PaperDraft(machine)
    for line in lines:
        word, numbers = read_line(line)
        draft.take(word, numbers)
    if draft.cover is None:
        raise PaperSyntaxError("there is no cover")
    return Paper(draft.sketches, draft.cover, draft.table)


def read_line(line):
    """The word of a line and the list of the numbers behind it."""
    words = line.split(" ")
    numbers = [read_number(word) for word in words[1:]]
    if -1 in numbers:
        raise PaperSyntaxError("a word behind the first one is no number")
    return words[0], numbers


class PaperDraft:
    """What the lines so far have written of a paper for a machine; the cover is None before its line."""

    def __init__(self, machine):
        self.machine = machine
        self.sketches = []
        self.cover = None
        self.table = []
        self.last = (-1, -1)

    def take(self, word, numbers):
        """Take the word and the numbers of a line."""
        if word == "sketch" and self.cover is None:
            self.take_sketch(numbers)
        elif word == "cover" and self.cover is None:
            self.take_cover(numbers)
        elif word == "row" and self.cover is not None:
            self.take_row(numbers)
        else:
            raise PaperSyntaxError("a line does not begin with a word of its place")

    def take_sketch(self, masks):
        """Take the masks of a sketch."""
        if len(masks) != len(self.machine.cells):
            raise PaperSyntaxError("a sketch has not one mask for each cell")
        if not all([1 <= mask <= LARGEST_MASK for mask in masks]):
            raise PaperSyntaxError("a mask is out of range")
        self.sketches.append(masks)

    def take_cover(self, indexes):
        """Take the indexes of the cover, and begin the table."""
        self.cover = indexes
        self.table = [[()] * len(self.machine.deeds) for _ in self.sketches]

    def take_row(self, numbers):
        """Take the numbers of a sketch and of a deed, and the indexes of the entry."""
        if len(numbers) < 3:
            raise PaperSyntaxError("a row has no index")
        sketch, deed, *entry = numbers
        if sketch >= len(self.sketches) or deed >= len(self.machine.deeds):
            raise PaperSyntaxError("the sketch or the deed of a row does not exist")
        if (sketch, deed) <= self.last:
            raise PaperSyntaxError("the rows are not in order")
        self.last = (sketch, deed)
        self.table[sketch][deed] = entry
