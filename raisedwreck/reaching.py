"""Asking for many sketches of one machine whether histories end in them."""

from raisedwreck.machines import changed
from raisedwreck.shelves import Shelf
from raisedwreck.sketches import least_disk, meet, meets
from raisedwreck.telling import Search


class Reach:
    """What was found so far of the disks in which histories of a machine without a piece end."""

    def __init__(self, machine, piece):
        self.machine = machine
        self.piece = piece
        # Each disk without the piece in one of these sketches is the end of such a history.
        self.goals = [machine.first]
        # No disk in one of these sketches is, and they are closed without the piece.
        self.barren = Shelf(machine.full)

    def reaches(self, parts):
        """True if a history without the piece ends in one of the parts, whose disks do not have the piece."""
        search = Search(self.machine, self.piece)
        search.shelf = self.barren.copied()
        start = search.go_back(parts, self.goals)
        if start is None:
            self.barren = search.shelf
            return False
        disk = self.disk_reached(start)
        for deed in search.deeds_from(start):
            disk = changed(self.machine.deeds[deed], disk)
            self.goals.append(tuple([1 << value for value in disk]))
        return True

    def disk_reached(self, sketch):
        """The least disk that a sketch has in common with the first of the goals that it meets, or None."""
        for goal in self.goals:
            if meets(sketch, goal):
                return least_disk(meet(sketch, goal))
        return None
