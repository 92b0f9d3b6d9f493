"""A list of sketches in which a sketch that includes another one is found quickly."""

from raisedwreck.sketches import count_disks, values_of


class Shelf:
    """Sketches of a machine with a full sketch, in the order in which they were put here."""

    def __init__(self, full):
        self.sketches = []
        # A set of indexes is an integer, as a set of values is in a mask: so the
        # indexes that many cells leave over are found without a look at each sketch.
        self.having = [[0] * mask.bit_length() for mask in full]

    def copied(self):
        """A shelf with the same sketches, on which others can be put without a change of this one."""
        shelf = Shelf([])
        shelf.sketches = list(self.sketches)
        shelf.having = [list(row) for row in self.having]
        return shelf

    def put(self, sketch):
        """Put a sketch behind the others."""
        own = 1 << len(self.sketches)
        self.sketches.append(sketch)
        for cell, mask in enumerate(sketch):
            row = self.having[cell]
            for value in values_of(mask):
                row[value] = row[value] | own

    def place(self, sketch):
        """The least index of a sketch in which a sketch is included, or -1 if there is none."""
        indexes = (1 << len(self.sketches)) - 1
        for cell, mask in enumerate(sketch):
            row = self.having[cell]
            for value in values_of(mask):
                indexes = indexes & row[value]
            if not indexes:
                return -1
        return (indexes & -indexes).bit_length() - 1

    def holding(self, disk):
        """The list of the sketches in which a disk is."""
        indexes = (1 << len(self.sketches)) - 1
        for cell, value in enumerate(disk):
            indexes = indexes & self.having[cell][value]
        found = []
        while indexes:
            index = indexes.bit_length() - 1
            found.append(self.sketches[index])
            indexes = indexes ^ (1 << index)
        return found


def put_largest_first(shelf, sketches):
    """Put those of the sketches on a shelf that are included in no other one, and return the list of them."""
    news = []
    # A sketch that includes another one has more disks than it.
    for sketch in sorted(sketches, key=count_disks, reverse=True):
        if shelf.place(sketch) < 0:
            shelf.put(sketch)
            news.append(sketch)
    return news
