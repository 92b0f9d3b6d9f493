"""Sketches and cases as text (points 65 to 67)."""

from raisedwreck.errors import CaseSyntaxError
from raisedwreck.machines import check_sketch
from raisedwreck.machinetext import Draft, format_machine, mask_lines, take_line
from raisedwreck.reports import report
from raisedwreck.sketches import sketch_with
from raisedwreck.telling import kept_rows


def format_sketch(machine, sketch):
    """The text of a sketch of a machine."""
    check_sketch(machine, sketch)
    return "".join([line + "\n" for line in mask_lines("at", machine, sketch)])


def format_case(machine, image, questions):
    """The text of a case."""
    parts = [format_machine(machine), "image\n", format_sketch(machine, image)]
    for label, piece in questions:
        parts.append(f"ask {label}\n")
        parts.extend(["or\n" + format_sketch(machine, sketch) for sketch in piece])
    return "".join(parts)


class Case:
    """A case that was read: a machine, an image and questions, each a label and a piece."""

    def __init__(self, machine, image, questions):
        self.machine = machine
        self.image = tuple(image)
        self.questions = tuple([(label, kept_rows(piece)) for label, piece in questions])


def parse_case(text):
    """The Case that a text writes."""
    lines = text.split("\n")
    rest = lines.pop()
    draft = CaseDraft()
    for index, line in enumerate(lines):
        if not draft.take(line):
            raise CaseSyntaxError(index)
    if rest or draft.image is None:
        raise CaseSyntaxError(len(lines))
    return draft.written()


def answer_case(text):
    """The report on the questions of the case that a text writes."""
    found = parse_case(text)
    return report(found.machine, found.image, found.questions)


class CaseDraft:
    """What the lines so far have written of a case; the image is None before its line.

    A sketch is a list of pairs of a cell and a mask; the sketch now is the one to
    which a line with the word at belongs, or None where there cannot be such a line.
    """

    def __init__(self):
        self.draft = Draft()
        self.image = None
        self.questions = []
        self.now = None

    def take(self, line):
        """Take a line; False if it cannot stand behind those before it."""
        if self.image is None:
            return self.take_image() if line == "image" else take_line(self.draft, line)
        if line == "or":
            return self.take_or()
        word, _, rest = line.partition(" ")
        if word == "ask":
            return self.take_ask(rest)
        return word == "at" and self.take_at(rest.split(" "))

    def take_image(self):
        """Take the line with which the image begins; False if it cannot stand here."""
        if not self.draft.cells:
            return False
        self.image = []
        self.now = self.image
        return True

    def take_ask(self, label):
        """Take the label with which a question begins; False if it is empty."""
        if label == "":
            return False
        self.questions.append((label, []))
        self.now = None
        return True

    def take_or(self):
        """Take the line with which a sketch of a piece begins; False if it cannot stand here."""
        if not self.questions:
            return False
        self.now = []
        self.questions[-1][1].append(self.now)
        return True

    def take_at(self, words):
        """Take the words of a cell and its values; False if they cannot stand here."""
        if self.now is None:
            return False
        pair = self.draft.next_part(self.now, words)
        if pair is None:
            return False
        self.now.append(pair)
        return True

    def written(self):
        """The case that the lines write."""
        machine = self.draft.written()
        questions = [(label, [sketch_with(machine.full, pairs) for pairs in piece]) for label, piece in self.questions]
        return Case(machine, sketch_with(machine.full, self.image), questions)
