"""Points 31 to 35, and the heading raisedwreck/chains.py."""

import itertools
import math
import random
import unittest

from raisedwreck.chains import (ChainForm, chain_delete, chain_files, chain_machine, chain_overwrite, chain_piece,
                                chain_write)
from raisedwreck.errors import InvalidFile, InvalidForm, NoRoom, NoSuchFile
from raisedwreck.machinetext import format_machine
from raisedwreck.sketches import has_piece
from tests import families, samples

SMALL = """cell d0 5
cell t0 4
cell t1 4
cell c0 1
cell c1 1
first d0 0
first t0 0
first t1 0
deed w0b0c0
when d0 0 3 4
when t0 0
set d0 1
set t0 1
set c0 0
deed w0b1c0
when d0 0 3 4
when t0 1 2 3
when t1 0
set d0 2
set t1 1
set c1 0
deed w0b01c00
when d0 0 3 4
when t0 0
when t1 0
set d0 1
set t0 3
set t1 1
set c0 0
set c1 0
deed o0b0c0
when d0 1
when t0 1
set c0 0
deed o0b1c0
when d0 2
when t1 1
set c1 0
deed o0b01c00
when d0 1
when t0 3
when t1 1
set c0 0
set c1 0
deed e0b0
when d0 1
when t0 1
set d0 3
set t0 0
deed e0b1
when d0 2
when t1 1
set d0 4
set t1 0
deed e0b01
when d0 1
when t0 3
when t1 1
set d0 3
set t0 0
set t1 0
"""


def is_right(files, blocks, alphabet, longest):
    if not (1 <= files <= 3 and 1 <= blocks <= 5 and 1 <= alphabet <= 3 and 1 <= longest <= min(3, blocks)):
        return False
    return files * sum(math.comb(blocks, n) * (2 * alphabet ** n + 1) for n in range(1, longest + 1)) <= 400


def all_forms():
    """All forms of the family."""
    rows = itertools.product(range(1, 4), range(1, 6), range(1, 4), range(1, 4), (True, False))
    return [ChainForm(*row, wiped=wiped) for *row, wiped in rows if is_right(*row)]


def all_contents(form):
    return [contents for length in range(1, form.longest + 1)
            for contents in itertools.product(range(form.alphabet), repeat=length)]


def all_blocks(form):
    return [blocks for length in range(1, form.longest + 1)
            for blocks in itertools.combinations(range(form.blocks), length)]


def live_values(form, file, blocks):
    """The values of the entry and of the links of a live file, by the names of the cells."""
    values = {f"d{file}": 1 + blocks[0]}
    for at, block in enumerate(blocks):
        values[f"t{block}"] = 1 if block == blocks[-1] else 2 + blocks[at + 1]
    return values


def contents_values(blocks, contents):
    return {f"c{block}": value for block, value in zip(blocks, contents)}


def plain_cells(form):
    return ([(f"d{file}", 1 + 2 * form.blocks) for file in range(form.files)]
            + [(f"t{block}", 2 + form.blocks) for block in range(form.blocks)]
            + [(f"c{block}", form.alphabet) for block in range(form.blocks)])


def plain_deeds(form):
    """The deeds of the machine of a form, word by word as points 34 and 35 say."""
    names = [name for name, _ in plain_cells(form)]
    deeds = []
    for file in range(form.files):
        fills = [(blocks, contents) for blocks in all_blocks(form)
                 for contents in all_contents(form) if len(contents) == len(blocks)]
        for blocks, contents in fills:
            guard = {f"t{block}": [0] if block in blocks else range(1, 2 + form.blocks)
                     for block in range(max(blocks) + 1)}
            guard[f"d{file}"] = [0, *range(1 + form.blocks, 1 + 2 * form.blocks)]
            changes = {**live_values(form, file, blocks), **contents_values(blocks, contents)}
            name = f"w{file}b{families.digits(blocks)}c{families.digits(contents)}"
            deeds.append(families.deed_of(names, name, guard, changes))
        for blocks, contents in fills:
            guard = {cell: [value] for cell, value in live_values(form, file, blocks).items()}
            name = f"o{file}b{families.digits(blocks)}c{families.digits(contents)}"
            deeds.append(families.deed_of(names, name, guard, contents_values(blocks, contents)))
        for blocks in all_blocks(form):
            guard = {cell: [value] for cell, value in live_values(form, file, blocks).items()}
            changes = {f"d{file}": 1 + form.blocks + blocks[0], **{f"t{block}": 0 for block in blocks}}
            deeds.append(families.deed_of(names, f"e{file}b{families.digits(blocks)}", guard, changes))
    return deeds


class Model:
    """A disk of chains, kept as the blocks of the live files instead of entries and links."""

    def __init__(self, form, disk):
        self.form = form
        self.data = list(disk[-form.blocks:])
        self.live = {}
        self.former = {}

    def disk(self):
        entries = [1 + self.live[file][0] if file in self.live
                   else 1 + self.form.blocks + self.former[file] if file in self.former else 0
                   for file in range(self.form.files)]
        links = [0] * self.form.blocks
        for blocks in self.live.values():
            for at, block in enumerate(blocks):
                links[block] = 2 + blocks[at + 1] if at + 1 < len(blocks) else 1
        return (*entries, *links, *self.data)

    def files(self):
        return [(file, tuple(self.data[block] for block in self.live[file])) for file in sorted(self.live)]

    def is_file(self, file):
        return file in range(self.form.files)

    def are_contents(self, contents):
        return 1 <= len(contents) <= self.form.longest and all(x in range(self.form.alphabet) for x in contents)

    def put(self, blocks, contents):
        for block, value in zip(blocks, contents):
            self.data[block] = value

    def write(self, file, contents):
        if not self.is_file(file) or not self.are_contents(contents) or file in self.live:
            return InvalidFile
        used = [block for blocks in self.live.values() for block in blocks]
        free = [block for block in range(self.form.blocks) if block not in used]
        if len(free) < len(contents):
            return NoRoom
        self.live[file] = free[:len(contents)]
        self.put(self.live[file], contents)
        return self.disk()

    def overwrite(self, file, contents):
        if not self.is_file(file) or not self.are_contents(contents):
            return InvalidFile
        if file not in self.live:
            return NoSuchFile
        if len(contents) != len(self.live[file]):
            return InvalidFile
        self.put(self.live[file], contents)
        return self.disk()

    def delete(self, file):
        if not self.is_file(file):
            return InvalidFile
        if file not in self.live:
            return NoSuchFile
        self.former[file] = self.live.pop(file)[0]
        return self.disk()


class Forms(unittest.TestCase):
    """Points 31 and 33: which forms there are."""

    def test_all_numbers_from_one_below_to_one_above(self):
        rows = itertools.product(range(5), range(7), range(5), range(5))
        forms = families.check_forms(self, ChainForm, rows, is_right)
        self.assertTrue(len(forms) > 50)

    def test_numbers_far_outside(self):
        for row in ((-1, 1, 1, 1), (1, -1, 1, 1), (1, 1, -1, 1), (1, 1, 1, -1), (10 ** 9, 1, 1, 1),
                    (1, 10 ** 9, 1, 1), (1, 1, 10 ** 9, 1), (1, 1, 1, 10 ** 9)):
            with self.subTest(row), self.assertRaises(InvalidForm):
                ChainForm(*row)

    def test_at_400_deeds(self):
        self.assertEqual(len(chain_machine(ChainForm(3, 3, 3, 3)).deeds), 399)
        self.assertEqual(len(chain_machine(ChainForm(1, 4, 3, 3)).deeds), 362)
        for row in ((2, 4, 3, 3), (1, 5, 3, 3), (2, 5, 2, 3), (3, 4, 2, 3), (3, 4, 3, 2)):
            for wiped in (True, False):
                with self.subTest(row), self.assertRaises(InvalidForm):
                    ChainForm(*row, wiped=wiped)

    def test_the_longest_length_is_at_most_the_number_of_blocks(self):
        for blocks, longest in ((1, 2), (1, 3), (2, 3)):
            with self.assertRaises(InvalidForm):
                ChainForm(1, blocks, 1, longest)
        self.assertEqual(ChainForm(1, 2, 1, 2).longest, 2)

    def test_attributes(self):
        form = ChainForm(2, 4, 1, 3, wiped=False)
        self.assertEqual((form.files, form.blocks, form.alphabet, form.longest), (2, 4, 1, 3))
        self.assertIs(form.wiped, False)
        self.assertIs(ChainForm(2, 4, 1, 3).wiped, True)
        self.assertIs(ChainForm(2, 4, 1, 3, wiped=True).wiped, True)


class Machines(unittest.TestCase):
    """Points 32 to 35: the machine of a form."""

    def test_the_example(self):
        machine = chain_machine(ChainForm(1, 2, 2, 1))
        self.assertEqual([name for name, size in machine.cells], ["d0", "t0", "t1", "c0", "c1"])
        self.assertEqual(machine.deeds[1], ("w0b0c1", ((0, 25), (1, 1)),
                                            ((0, ("set", 1)), (1, ("set", 1)), (3, ("set", 1)))))

    def test_a_small_machine_as_text(self):
        for wiped in (True, False):
            self.assertEqual(format_machine(chain_machine(ChainForm(1, 2, 1, 2, wiped=wiped))), SMALL)

    def test_the_first_disks(self):
        self.assertEqual(chain_machine(ChainForm(2, 3, 3, 1)).first, (1,) * 8)
        self.assertEqual(chain_machine(ChainForm(2, 3, 3, 1, wiped=False)).first, (1,) * 5 + (7,) * 3)
        self.assertEqual(chain_machine(ChainForm(1, 1, 2, 1, wiped=False)).first, (1, 1, 3))

    def test_the_order_of_the_names(self):
        names = [name for name, _, _ in chain_machine(ChainForm(2, 2, 2, 2)).deeds]
        fills = ["b0c0", "b0c1", "b1c0", "b1c1", "b01c00", "b01c01", "b01c10", "b01c11"]
        expected = []
        for file in "01":
            expected += ["w" + file + fill for fill in fills] + ["o" + file + fill for fill in fills]
            expected += ["e" + file + blocks for blocks in ("b0", "b1", "b01")]
        self.assertEqual(names, expected)

    def test_all_machines(self):
        for form in all_forms():
            contents = 1 if form.wiped else 2 ** form.alphabet - 1
            first = (1,) * (form.files + form.blocks) + (contents,) * form.blocks
            families.check_machine(self, chain_machine(form), plain_cells(form), plain_deeds(form), first)


class Files(unittest.TestCase):
    """Points 31 and 34: the functions that work on a disk."""

    def test_the_example(self):
        form = ChainForm(2, 3, 2, 2)
        disk = chain_write(form, (0, 0, 0, 0, 0, 0, 0, 0), 1, (1, 0))
        self.assertEqual(disk, (0, 1, 3, 1, 0, 1, 0, 0))
        disk = chain_delete(form, chain_write(form, disk, 0, (1,)), 1)
        self.assertEqual((disk, chain_files(form, disk)), ((3, 4, 0, 0, 1, 1, 0, 1), [(0, (1,))]))

    def test_a_file_in_blocks_that_are_not_side_by_side(self):
        form = ChainForm(3, 5, 2, 2)
        disk = (0,) * 13
        for file in range(3):
            disk = chain_write(form, disk, file, (1,))
        disk = chain_delete(form, disk, 1)
        disk = chain_write(form, disk, 1, (1, 0))
        self.assertEqual(disk, (1, 2, 3, 1, 2 + 3, 1, 1, 0, 1, 1, 1, 0, 0))
        self.assertEqual(chain_files(form, disk), [(0, (1,)), (1, (1, 0)), (2, (1,))])
        self.assertEqual(chain_overwrite(form, disk, 1, (0, 1)), (1, 2, 3, 1, 5, 1, 1, 0, 1, 0, 1, 1, 0))
        self.assertEqual(chain_delete(form, disk, 1), (1, 7, 3, 1, 0, 1, 0, 0, 1, 1, 1, 0, 0))

    def test_no_files_at_first(self):
        form = ChainForm(2, 2, 3, 1, wiped=False)
        self.assertEqual(chain_files(form, (0, 0, 0, 0, 2, 1)), [])

    def test_errors_in_their_order(self):
        form = ChainForm(2, 2, 2, 2)
        empty = (0,) * 6
        full = chain_write(form, chain_write(form, empty, 0, (1,)), 1, (1,))
        for disk in (empty, full):
            for file, contents in ((2, (0,)), (-1, (0,)), (0, ()), (0, (0, 0, 0)), (0, (2,)), (0, (-1,)), (1, (0, 2))):
                for function in (chain_write, chain_overwrite):
                    with self.subTest(disk=disk, file=file, contents=contents), self.assertRaises(InvalidFile):
                        function(form, disk, file, contents)
                with self.subTest(file=file, contents=contents), self.assertRaises(InvalidFile):
                    chain_piece(form, file, contents)
            for file in (2, -1, 10 ** 9):
                with self.assertRaises(InvalidFile):
                    chain_delete(form, disk, file)
        # The file is live, and there is no room either.
        self.assertIs(families.result_of(chain_write, form, full, 0, (0,)), InvalidFile)
        self.assertIs(families.result_of(chain_write, form, chain_delete(form, full, 0), 0, (0, 0)), NoRoom)
        self.assertIs(families.result_of(chain_overwrite, form, empty, 0, (0, 0)), NoSuchFile)
        self.assertIs(families.result_of(chain_overwrite, form, full, 0, (0, 0)), InvalidFile)
        self.assertIs(families.result_of(chain_delete, form, empty, 1), NoSuchFile)
        self.assertIs(families.result_of(chain_delete, form, chain_delete(form, full, 1), 1), NoSuchFile)

    def test_long_runs(self):
        dice = random.Random(34)
        errors = set()
        for form in (ChainForm(3, 5, 2, 2), ChainForm(2, 4, 3, 2, wiped=False), ChainForm(2, 5, 1, 3),
                     ChainForm(3, 3, 3, 3, wiped=False), ChainForm(1, 1, 1, 1)):
            machine = chain_machine(form)
            disk = samples.disks_in(machine.first)[-1]
            model = Model(form, disk)
            for _ in range(300):
                new = self.step(form, machine, model, disk, dice)
                if isinstance(new, tuple):
                    disk = new
                    self.assertEqual(chain_files(form, disk), model.files())
                else:
                    errors.add(new)
        self.assertEqual(errors, {InvalidFile, NoRoom, NoSuchFile})

    def step(self, form, machine, model, disk, dice):
        """One function with some arguments, also wrong ones: compared with the model and with the machine."""
        word = dice.choice("woe")
        file = dice.randint(-1, form.files) if dice.random() < 0.2 else dice.randrange(form.files)
        contents = dice.choice(all_contents(form))
        if dice.random() < 0.1:
            contents = contents + (dice.randint(-1, form.alphabet),)
        if word == "e":
            found, expected = families.result_of(chain_delete, form, disk, file), model.delete(file)
        elif word == "w":
            found, expected = families.result_of(chain_write, form, disk, file, contents), model.write(file, contents)
        else:
            found = families.result_of(chain_overwrite, form, disk, file, contents)
            expected = model.overwrite(file, contents)
        self.assertEqual(found, expected)
        end = "" if word == "e" else "c" + families.digits(contents)
        begin = f"{word}{file}b"
        after = families.disks_after(machine, disk, lambda name: name.startswith(begin) and name.endswith(end))
        self.assertEqual(after, [found] if isinstance(found, tuple) else [])
        return found

    def test_every_deed_on_every_disk_is_one_function(self):
        for form in (ChainForm(2, 2, 2, 2), ChainForm(1, 3, 2, 3), ChainForm(2, 3, 1, 2),
                     ChainForm(1, 2, 2, 1, wiped=False)):
            machine = chain_machine(form)
            reached = samples.reached(machine)
            self.assertTrue(len(reached) > 8)
            for disk in reached:
                found = []
                for file in range(form.files):
                    found += [families.result_of(chain_write, form, disk, file, x) for x in all_contents(form)]
                    found += [families.result_of(chain_overwrite, form, disk, file, x) for x in all_contents(form)]
                    found.append(families.result_of(chain_delete, form, disk, file))
                done = [new for new in found if isinstance(new, tuple)]
                self.assertEqual(sorted(done), sorted(samples.steps_of(machine, disk)))


class Pieces(unittest.TestCase):
    """The function chain_piece."""

    def test_sketch_by_sketch(self):
        form = ChainForm(2, 3, 2, 2)
        self.assertEqual(chain_piece(form, 1, (0, 1)), [(127, 2, 8, 2, 31, 1, 2, 3), (127, 2, 16, 31, 2, 1, 3, 2),
                                                        (127, 4, 31, 16, 2, 3, 1, 2)])
        self.assertEqual(chain_piece(form, 0, (1,)), [(2, 127, 2, 31, 31, 2, 3, 3), (4, 127, 31, 2, 31, 3, 2, 3),
                                                      (8, 127, 31, 31, 2, 3, 3, 2)])

    def test_all_pieces(self):
        for form in (ChainForm(1, 5, 2, 3), ChainForm(3, 4, 2, 2, wiped=False), ChainForm(1, 1, 1, 1)):
            machine = chain_machine(form)
            for file in range(form.files):
                for contents in all_contents(form):
                    expected = []
                    for blocks in itertools.combinations(range(form.blocks), len(contents)):
                        values = {**live_values(form, file, blocks), **contents_values(blocks, contents)}
                        expected.append(families.sketch_of(machine, {cell: [x] for cell, x in values.items()}))
                    self.assertEqual(chain_piece(form, file, contents), expected)

    def test_on_all_disks_that_can_be_reached(self):
        for form in (ChainForm(2, 2, 2, 2), ChainForm(1, 3, 2, 3), ChainForm(2, 3, 1, 2),
                     ChainForm(1, 2, 3, 2, wiped=False)):
            reached = samples.reached(chain_machine(form))
            for file in range(form.files):
                for contents in all_contents(form):
                    piece = chain_piece(form, file, contents)
                    for disk in reached:
                        self.assertIs(has_piece(piece, disk), (file, contents) in chain_files(form, disk))

    def test_telling(self):
        dice = random.Random(35)
        for form in (ChainForm(2, 2, 2, 1), ChainForm(1, 2, 2, 2, wiped=False)):
            pieces = [chain_piece(form, file, contents)
                      for file in range(form.files) for contents in all_contents(form)]
            families.check_telling(self, chain_machine(form), pieces, dice, 60)


class Calls(unittest.TestCase):
    """Points 2 and 4."""

    def test_lists_are_new_and_forms_stay_as_they_are(self):
        form = ChainForm(2, 3, 2, 2, wiped=False)
        kept = dict(vars(form))
        disk = chain_write(form, (0,) * 8, 0, (1, 1))
        for function, arguments in ((chain_files, (disk,)), (chain_piece, (0, (1, 1)))):
            first, second = function(form, *arguments), function(form, *arguments)
            self.assertIsInstance(first, list)
            self.assertEqual(first, second)
            first.clear()
            self.assertEqual(function(form, *arguments), second)
        one, other = chain_machine(form), chain_machine(ChainForm(2, 3, 2, 2, wiped=False))
        self.assertEqual((one.cells, one.deeds, one.first), (other.cells, other.deeds, other.first))
        self.assertEqual(vars(form), kept)


if __name__ == "__main__":
    unittest.main()
