"""Points 10 and 11, and the heading raisedwreck/machinetext.py."""

import random
import unittest

from raisedwreck.errors import InvalidMachine, MachineSyntaxError
from raisedwreck.machines import Machine
from raisedwreck.machinetext import format_machine, parse_machine
from tests import samples, texts

TWO_CELLS = "cell a 2\ncell b 3\n"
WHOLE = "cell a 2\ncell b 3\nfirst b 0\ndeed go\nwhen a 0\nwhen b 0 2\ncopy b a\ndeed on\nset a 1\nset b 2\ndeed of\n"


def parts(machine):
    return machine.cells, machine.deeds, machine.first


def is_whole_text(text):
    """True if a text is the text of some machine: then it is that of the machine that it might mean."""
    try:
        return format_machine(texts.loosely_read(text.split("\n")[:-1])) == text
    except (InvalidMachine, ValueError, KeyError, IndexError):
        return False


def first_wrong_line(text):
    """The index that point 11 asks for, or None if a text is that of a machine.

    Lines behind which a text may go on are themselves a text, so a line can stand
    at its place exactly if the lines up to it are the text of a machine.
    """
    lines = text.split("\n")
    for index in range(len(lines) - 1):
        if not is_whole_text("".join(line + "\n" for line in lines[:index + 1])):
            return index
    return len(lines) - 1 if lines[-1] or len(lines) == 1 else None


class Formatting(unittest.TestCase):
    """Point 10."""

    def test_the_example(self):
        machine = Machine([("a", 2), ("b", 3)], [("go", ((0, 1), (1, 5)), ((1, ("copy", 0)),))], (3, 1))
        self.assertEqual(format_machine(machine),
                         "cell a 2\ncell b 3\nfirst b 0\ndeed go\nwhen a 0\nwhen b 0 2\ncopy b a\n")

    def test_cells_alone(self):
        self.assertEqual(format_machine(Machine([("a1", 16)], [], (65535,))), "cell a1 16\n")
        self.assertEqual(format_machine(Machine([("a1", 1)], [], (1,))), "cell a1 1\n")

    def test_first_lines_of_all_cells_without_their_full_mask(self):
        machine = Machine([("b", 16), ("a", 3), ("c", 2)], [], (64513, 7, 2))
        self.assertEqual(format_machine(machine),
                         "cell b 16\ncell a 3\ncell c 2\nfirst b 0 10 11 12 13 14 15\nfirst c 1\n")

    def test_deeds(self):
        deeds = [("go", ((0, 3), (1, 2)), ((0, ("set", 0)), (1, ("copy", 1)))), ("on", (), ())]
        self.assertEqual(format_machine(Machine([("a", 2), ("b", 3)], deeds, (3, 7))),
                         TWO_CELLS + "deed go\nwhen a 0 1\nwhen b 1\nset a 0\ncopy b b\ndeed on\n")


class Reading(unittest.TestCase):
    """Point 10 read back, and point 11."""

    def refused(self, text, index):
        with self.subTest(text), self.assertRaises(MachineSyntaxError) as caught:
            parse_machine(text)
        with self.subTest(text):
            self.assertEqual(caught.exception.line, index)
            if text.count("\n") < 100:
                self.assertEqual(first_wrong_line(text), index)

    def refused_last(self, *texts):
        """Each text is refused for its last line, whatever comes behind it."""
        for text in texts:
            index = text.count("\n") - 1
            self.refused(text, index)
            self.refused(text + "deed onward\nno line\n", index)
            self.refused(text + "rest", index)

    def accepted(self, text):
        with self.subTest(text):
            self.assertEqual(format_machine(parse_machine(text)), text)

    def test_what_was_written_is_read_back(self):
        dice = random.Random(10)
        for _ in range(300):
            machine = samples.random_machine(dice, 6, 16)
            self.assertEqual(parts(parse_machine(format_machine(machine))), parts(machine))

    def test_each_machine_within_the_limits_is_read_back(self):
        cells = [(f"c{number}", 16) for number in range(24)]
        full = (65535,) * 24
        guard = tuple((number, 65535) for number in range(24))
        changes = tuple((number, ("copy", 23 - number)) for number in range(24))
        deeds = [(f"d{number}", guard if number == 7 else (), changes if number == 8 else ())
                 for number in range(400)]
        for first in (full, tuple(1 << number % 16 for number in range(24)), full[:23] + (21845,)):
            machine = Machine(cells, deeds, first)
            self.assertEqual(parts(parse_machine(format_machine(machine))), parts(machine))

    def test_the_whole_example(self):
        machine = parse_machine(WHOLE)
        self.assertEqual(parts(machine), (
            (("a", 2), ("b", 3)),
            (("go", ((0, 1), (1, 5)), ((1, ("copy", 0)),)), ("on", (), ((0, ("set", 1)), (1, ("set", 2)))),
             ("of", (), ())),
            (3, 1)))
        self.accepted(WHOLE)

    def test_texts_that_may_stand(self):
        for lines in ("deed go\nwhen a 0 1\nwhen b 0 1 2\n", "deed go\ncopy a a\ncopy b b\n", "deed a\n",
                      "first a 1\nfirst b 1 2\n", "deed go\nset b 2\n", "deed abcdefghijkl\n"):
            self.accepted(TWO_CELLS + lines)

    def test_the_empty_text_and_the_last_line_feed(self):
        for text, index in (("", 0), ("cell a 2", 0), ("x", 0), ("cell a 2\ncell b 3", 1), ("cell a 2\nx", 1),
                            (WHOLE + " ", 11), (WHOLE[:-1], 10), (WHOLE + "deed up", 11)):
            self.refused(text, index)

    def test_wrong_words(self):
        self.refused_last("\n", " \n", "Cell a 2\n", "cells a 2\n", "cell a 2\n\n", "cell a 2\nimage\n",
                          TWO_CELLS + "deeds go\n", TWO_CELLS + "deed go\nunless a 0\n", TWO_CELLS + "first\n",
                          TWO_CELLS + "deed go\nwhen\n", TWO_CELLS + "deed go\nset\n",
                          TWO_CELLS + "deed go\ncopy\n", TWO_CELLS + "deed\n", "cell\n", "cell a\n")

    def test_one_space_between_two_words(self):
        for text in (" cell a 2\n", "cell a 2 \n", "cell  a 2\n", "cell a  2\n", "cell a\t2\n", "cell a 2\r\n",
                     "cell a 2\x0b\n", "cell a 2\u2028\n", TWO_CELLS + "first a 0 \n", TWO_CELLS + "first  a 0\n",
                     TWO_CELLS + "deed go \n", TWO_CELLS + " deed go\n", TWO_CELLS + "deed go\nwhen b 0  1\n",
                     TWO_CELLS + "deed go\nset a 0 \n", TWO_CELLS + "deed go\ncopy a a \n"):
            self.refused_last(text)

    def test_too_many_words(self):
        self.refused_last("cell a 2 2\n", TWO_CELLS + "deed go on\n", TWO_CELLS + "deed go\nset a 0 1\n",
                          TWO_CELLS + "deed go\ncopy a a a\n")

    def test_names_of_cells(self):
        self.refused_last("cell A 2\n", "cell 1 2\n", "cell a_ 2\n", "cell abcdefghijklm 2\n", "cell  2\n",
                          "cell a 2\ncell a 2\n", "cell a 2\ncell b 2\ncell a 3\n", "cell \u00e9 2\n")

    def test_sizes_of_cells(self):
        self.refused_last("cell a 0\n", "cell a 17\n", "cell a -1\n", "cell a +1\n", "cell a 02\n", "cell a 016\n",
                          "cell a 1_0\n", "cell a two\n", "cell a \n", "cell a 2.0\n", "cell a \u00b2\n",
                          "cell a \u0663\n", "cell a 1" + "0" * 5000 + "\n", "cell a 99999999999\n")
        for size in range(1, 17):
            self.accepted(f"cell a {size}\n")

    def test_25_cells(self):
        text = "".join(f"cell c{number} 2\n" for number in range(24))
        self.accepted(text)
        self.refused_last(text + "cell d 2\n")

    def test_the_order_of_lines(self):
        for line in ("first a 0\n", "deed go\n", "when a 0\n", "set a 0\n", "copy a a\n"):
            self.refused_last(line)
        for before in ("first a 0\n", "deed go\n", "deed go\nwhen a 0\n", "deed go\nset a 0\n"):
            self.refused_last(TWO_CELLS + before + "cell c 2\n")
        for before in ("deed go\n", "deed go\nwhen a 0\n", "deed go\nset a 0\n"):
            self.refused_last(TWO_CELLS + before + "first a 0\n")
        for line in ("when a 0\n", "set a 0\n", "copy a a\n"):
            self.refused_last(TWO_CELLS + line, TWO_CELLS + "first a 0\n" + line)
        for change in ("set a 0\n", "copy a a\n"):
            self.refused_last(TWO_CELLS + "deed go\n" + change + "when b 0\n",
                              TWO_CELLS + "deed go\nwhen a 0\n" + change + "when b 0\n")

    def test_first_lines(self):
        self.refused_last(*[TWO_CELLS + line for line in (
            "first a 0 1\n", "first b 0 1 2\n", "first a\n", "first a 2\n", "first b 3\n", "first b 1 0\n",
            "first b 1 1\n", "first b 2 0\n", "first b 00\n", "first b 01\n", "first b 0 -1\n", "first c 0\n",
            "first b 0 1 2 3\n", "first b 0\nfirst a 0\n", "first a 0\nfirst a 1\n", "first b 0\nfirst b 0\n",
            "first  0\n", "first 0 0\n")])
        self.refused_last("cell a 1\nfirst a 0\n", "cell a 1\nfirst a 1\n")

    def test_deed_lines(self):
        self.refused_last(*[TWO_CELLS + line for line in (
            "deed Go\n", "deed 1\n", "deed \n", "deed a-b\n", "deed abcdefghijklm\n", "deed go\ndeed go\n",
            "deed go\ndeed on\nset a 0\ndeed go\n")])

    def test_401_deeds(self):
        text = "cell a 2\n" + "".join(f"deed d{number}\nset a 0\n" for number in range(400))
        self.accepted(text)
        self.refused_last(text + "deed go\n")

    def test_when_lines(self):
        start = TWO_CELLS + "deed go\n"
        self.refused_last(*[start + line for line in (
            "when a\n", "when c 0\n", "when a 2\n", "when a 0 1 2\n", "when b 1 0\n", "when b 0 0\n", "when b 2 1\n",
            "when b 00\n", "when b 0 01\n", "when b 3\n", "when b -1\n", "when b x\n", "when go 0\n",
            "when b 0\nwhen a 0\n", "when a 0\nwhen a 1\n", "when b 0\nwhen b 0\n")])
        self.accepted(start + "when b 0\ndeed on\nwhen a 0\nwhen b 1 2\n")

    def test_set_lines(self):
        start = TWO_CELLS + "deed go\n"
        self.refused_last(*[start + line for line in (
            "set a\n", "set c 0\n", "set a 2\n", "set b 3\n", "set a 01\n", "set a 00\n", "set a -1\n", "set a b\n",
            "set b 0\nset a 0\n", "set a 0\nset a 1\n", "copy a a\nset a 0\n", "copy b a\nset a 0\n")])

    def test_copy_lines(self):
        start = TWO_CELLS + "deed go\n"
        self.refused_last(*[start + line for line in (
            "copy a\n", "copy c a\n", "copy a c\n", "copy a b\n", "copy a 0\n", "copy b 1\n", "copy a go\n",
            "copy b a\ncopy a a\n", "copy b a\ncopy b b\n", "set b 0\ncopy a a\n", "set a 0\ncopy a a\n")])
        self.accepted(start + "copy a a\ncopy b a\n")

    def test_the_first_wrong_line_of_several(self):
        self.refused("cell a 2\ncell b 0\ncell a 2\nx\n", 1)
        self.refused(WHOLE + "set a 2\nset a 0\n", 11)

    def test_many_texts_with_one_mistake(self):
        dice = random.Random(11)
        wrong = 0
        for _ in range(1500):
            text = format_machine(samples.random_machine(dice, 4, 4, 4))
            for _ in range(dice.randint(1, 2)):
                text = texts.spoilt(dice, text)
            index = first_wrong_line(text)
            if index is None:
                self.accepted(text)
            else:
                wrong += 1
                self.refused(text, index)
        self.assertGreater(wrong, 500)

    def test_two_calls_give_equal_machines(self):
        self.assertEqual(parts(parse_machine(WHOLE)), parts(parse_machine(WHOLE)))


if __name__ == "__main__":
    unittest.main()
