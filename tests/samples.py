"""Machines for the tests, and plain walks over disks with which the program is compared.

The walks look at single disks only, so they share nothing with the program's way over sketches.
"""

import itertools

from raisedwreck.machines import Machine


def counter(digits):
    """A machine whose cells count up in binary digits; the first disk is 0 in all cells."""
    deeds = []
    for place in range(digits):
        guard = tuple((cell, 2 if cell < place else 1) for cell in range(place + 1))
        changes = tuple((cell, ("set", 0 if cell < place else 1)) for cell in range(place + 1))
        deeds.append((f"up{place}", guard, changes))
    return Machine([(f"b{place}", 2) for place in range(digits)], deeds, (1,) * digits)


def three_steps():
    """One cell that goes from 0 to 1 and from 1 to 2, as in the example of the document."""
    deeds = [("up", ((0, 1),), ((0, ("set", 1)),)), ("on", ((0, 2),), ((0, ("set", 2)),))]
    return Machine([("a", 3)], deeds, (1,))


def swapping():
    """Two cells of two values that are swapped if the first one is 0."""
    swap = ("swap", ((0, 1),), ((0, ("copy", 1)), (1, ("copy", 0))))
    return Machine([("a", 2), ("b", 2)], [swap], (1, 2))


def random_sketch(dice, full, keep=0.5):
    """A sketch in which about a part keep of the cells has all values."""
    return tuple(most if dice.random() < keep else dice.randint(1, most) for most in full)


def random_source(dice, sizes, cell):
    smaller = [other for other, size in enumerate(sizes) if size <= sizes[cell]]
    if dice.random() < 0.4:
        return ("copy", dice.choice(smaller))
    return ("set", dice.randrange(sizes[cell]))


def random_machine(dice, most_cells=4, most_size=4, most_deeds=7):
    """A machine with few disks and with deeds of all kinds."""
    sizes = [dice.randint(1, most_size) for _ in range(dice.randint(1, most_cells))]
    full = [(1 << size) - 1 for size in sizes]
    deeds = []
    for number in range(dice.randint(0, most_deeds)):
        guarded = sorted(dice.sample(range(len(sizes)), dice.randint(0, len(sizes))))
        changed = sorted(dice.sample(range(len(sizes)), dice.randint(0, len(sizes))))
        guard = tuple((cell, dice.randint(1, full[cell])) for cell in guarded)
        changes = tuple((cell, random_source(dice, sizes, cell)) for cell in changed)
        deeds.append((f"do{number}", guard, changes))
    cells = [(f"c{number}", size) for number, size in enumerate(sizes)]
    return Machine(cells, deeds, random_sketch(dice, full, 0.1))


def random_question(dice, machine):
    """An image and a piece for a machine."""
    image = random_sketch(dice, machine.full)
    piece = [random_sketch(dice, machine.full, 0.4) for _ in range(dice.randint(0, 3))]
    return image, piece


def is_in(disk, sketch):
    return all(mask & (1 << value) for value, mask in zip(disk, sketch))


def is_in_some(disk, sketches):
    return any(is_in(disk, sketch) for sketch in sketches)


def disks_of(machine):
    """All disks of a machine."""
    return list(itertools.product(*[range(size) for _, size in machine.cells]))


def disks_in(sketch):
    """All disks in a sketch."""
    return list(itertools.product(*[[value for value in range(16) if mask & (1 << value)] for mask in sketch]))


def done(machine, disk, deed):
    """The disk after a deed, or None if it cannot be done."""
    _, guard, changes = machine.deeds[deed]
    if not all(mask & (1 << disk[cell]) for cell, mask in guard):
        return None
    new = dict(enumerate(disk))
    for cell, (word, number) in changes:
        new[cell] = {"set": number, "copy": disk[number % len(disk)]}[word]
    return tuple(new[cell] for cell in range(len(disk)))


def steps_of(machine, disk):
    """The disks after all deeds that can be done."""
    found = [done(machine, disk, deed) for deed in range(len(machine.deeds))]
    return [disk for disk in found if disk is not None]


def least_deeds(machine, image, piece):
    """The least number of deeds of a history that ends in the image without the piece, or None."""
    level = [disk for disk in disks_in(machine.first) if not is_in_some(disk, piece)]
    seen = set(level)
    deeds = 0
    while level:
        if any(is_in(disk, image) for disk in level):
            return deeds
        after = {new for disk in level for new in steps_of(machine, disk) if not is_in_some(new, piece)}
        level = sorted(after - seen)
        seen |= after
        deeds += 1
    return None


def disks_with_a_way(machine, image, piece):
    """The disks from which deeds lead into the image such that no disk on the way has the piece."""
    free = [disk for disk in disks_of(machine) if not is_in_some(disk, piece)]
    found = {disk for disk in free if is_in(disk, image)}
    size = -1
    while size < len(found):
        size = len(found)
        found |= {disk for disk in free if any(new in found for new in steps_of(machine, disk))}
    return found


def plain_without(sketch, piece):
    """What is left of a sketch without a piece, word by word as points 13 and 14 say."""
    left = [sketch]
    for b in piece:
        replaced = []
        for a in left:
            if any(x & y == 0 for x, y in zip(a, b)):
                replaced.append(a)
                continue
            for cell in range(len(a)):
                if a[cell] | b[cell] != b[cell]:
                    masks = [a[k] & b[k] for k in range(cell)] + [a[cell] & ~b[cell]] + list(a[cell + 1:])
                    replaced.append(tuple(masks))
        left = replaced
    return left


def plain_before(machine, sketch, deed):
    """The sketch of the disks from which a deed leads into a sketch, found disk by disk, or None."""
    found = [disk for disk in disks_of(machine)
             if done(machine, disk, deed) is not None and is_in(done(machine, disk, deed), sketch)]
    if not found:
        return None
    return tuple(sum({1 << disk[cell] for disk in found}) for cell in range(len(machine.cells)))


def plain_places_hold(parts, places, sketches):
    return len(parts) == len(places) and all(
        place in range(len(sketches)) and all(x | y == y for x, y in zip(part, sketches[place]))
        for part, place in zip(parts, places))


def plain_table_holds(machine, piece, sketches, table):
    """True if a table shows, part by part, that the sketches are closed without the piece."""
    if len(table) != len(sketches):
        return False
    for sketch, row in zip(sketches, table):
        if len(row) != len(machine.deeds):
            return False
        for deed, entry in enumerate(row):
            earlier = plain_before(machine, sketch, deed)
            parts = [] if earlier is None else plain_without(earlier, piece)
            if not plain_places_hold(parts, entry, sketches):
                return False
    return True


def plain_fits(machine, sketch):
    return len(sketch) == len(machine.full) and all(1 <= x <= most for x, most in zip(sketch, machine.full))


def plain_meet(a, b):
    """The meet of two sketches, or None if there is none."""
    found = tuple(x & y for x, y in zip(a, b))
    return found if all(found) else None


def plain_judge(machine, image, piece, paper):
    """True if a paper is as point 20 says, part by part."""
    for sketch in paper.sketches:
        if not plain_fits(machine, sketch) or plain_meet(sketch, machine.first) is not None:
            return False
    if not plain_places_hold(plain_without(image, piece), paper.cover, paper.sketches):
        return False
    return plain_table_holds(machine, piece, paper.sketches, paper.table)


def reached(machine, piece=()):
    """The disks that are the last moment of a history without the piece."""
    found = {disk for disk in disks_in(machine.first) if not is_in_some(disk, piece)}
    waiting = sorted(found)
    while waiting:
        for new in steps_of(machine, waiting.pop()):
            if new not in found and not is_in_some(new, piece):
                found.add(new)
                waiting.append(new)
    return found


def plain_judgement(machine, image, piece):
    """The judgement on a piece, by a walk over all disks that notes whether the piece was there."""
    found = {(disk, is_in_some(disk, piece)) for disk in disks_in(machine.first)}
    waiting = sorted(found)
    while waiting:
        disk, had = waiting.pop()
        for new in steps_of(machine, disk):
            pair = (new, had or is_in_some(new, piece))
            if pair not in found:
                found.add(pair)
                waiting.append(pair)
    ends = {had for disk, had in found if is_in(disk, image)}
    if not ends:
        return "contradictory"
    if ends == {True}:
        return "told"
    return "possible" if True in ends else "impossible"


def plain_core(machine, image):
    """The core of a contradictory image, with all disks that can be reached."""
    found = reached(machine)
    kept = []
    for cell in range(len(image)):
        wider = image[:cell] + (machine.full[cell],) + image[cell + 1:]
        if any(is_in(disk, wider) for disk in found):
            kept.append(cell)
        else:
            image = wider
    return kept


def moments_of(machine, disk, deeds):
    """The moments of a history, or None if the disk and the deeds are none."""
    if disk not in disks_in(machine.first):
        return None
    disks = [disk]
    for deed in deeds:
        new = done(machine, disks[-1], deed) if deed in range(len(machine.deeds)) else None
        if new is None:
            return None
        disks.append(new)
    return disks
