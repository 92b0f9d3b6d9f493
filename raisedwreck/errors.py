"""The errors that the program raises."""


class WreckError(ValueError):
    """The base class of all errors of the program."""


class InvalidMachine(WreckError):
    """Cells, deeds or a first sketch break a rule of points 5 to 7."""


class InvalidDisk(WreckError):
    """A disk is no disk, or no first disk, of a machine."""


class InvalidSketch(WreckError):
    """A sketch or a cell does not belong to a machine."""


class NoSuchDeed(WreckError):
    """A machine has no deed with a number or a name."""


class CannotDo(WreckError):
    """A deed cannot be done; position is its index among the deeds."""

    def __init__(self, position):
        super().__init__(f"the deed at index {position} cannot be done")
        self.position = position


class TooManyDisks(WreckError):
    """More disks or readings than a list may have."""


class NotContradictory(WreckError):
    """An image that must be contradictory is not."""


class InvalidForm(WreckError):
    """The numbers of a form of a file system are refused."""


class InvalidFile(WreckError):
    """A file is not a file of the form, or its contents do not fit."""


class NoRoom(WreckError):
    """The disk has no room for a file, or a step cannot be made."""


class NoSuchFile(WreckError):
    """A file that must be live is not."""


class MachineSyntaxError(WreckError):
    """A text is not the text of a machine; line is the index of the wrong line."""

    def __init__(self, line):
        super().__init__(f"the line with the index {line} cannot stand in the text of a machine")
        self.line = line


class CaseSyntaxError(WreckError):
    """A text is not a case; line is the index of the wrong line."""

    def __init__(self, line):
        super().__init__(f"the line with the index {line} cannot stand in a case")
        self.line = line


class PaperSyntaxError(WreckError):
    """A text is not the text of a paper."""
