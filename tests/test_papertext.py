"""Points 52 and 53, and the heading raisedwreck/papertext.py."""

import copy
import random
import re
import unittest

from raisedwreck.errors import PaperSyntaxError
from raisedwreck.judging import judge_paper
from raisedwreck.machines import Machine
from raisedwreck.papertext import format_paper, parse_paper
from raisedwreck.telling import Paper, tell
from tests import samples

NUMBERS = r"((?: (?:0|[1-9][0-9]{0,8}))*)\n"
FORM = re.compile(f"((?:sketch{NUMBERS})*)cover{NUMBERS}((?:row{NUMBERS})*)")

# Of a machine with two cells and two deeds.
TEXT = "sketch 1 3\nsketch 2 3\ncover 0\nrow 0 1 1 0\nrow 1 0 0\n"


def two_and_two():
    """A machine with two cells and two deeds."""
    return Machine([("a", 2), ("b", 2)], [("go", (), ()), ("on", (), ())], (1, 1))


def parts(paper):
    return paper.sketches, paper.cover, paper.table


def rows_of(lines):
    """The numbers of lines, without their words."""
    return [tuple(int(word) for word in line.split(" ")[1:]) for line in lines.split("\n")[:-1]]


def plain_parts(machine, text):
    """The parts of the paper that a text writes, or None if it is not the text of a paper, as point 53 says."""
    found = FORM.fullmatch(text)
    if found is None:
        return None
    sketches, rows = rows_of(found[1]), rows_of(found[4])
    cover = tuple(int(word) for word in found[3].split())
    if any(len(sketch) != len(machine.cells) or not all(0 < mask < 65536 for mask in sketch) for sketch in sketches):
        return None
    if any(len(row) < 3 or row[0] >= len(sketches) or row[1] >= len(machine.deeds) for row in rows):
        return None
    places = [row[:2] for row in rows]
    if places != sorted(set(places)):
        return None
    entries = {row[:2]: row[2:] for row in rows}
    table = tuple(tuple(entries.get((sketch, deed), ()) for deed in range(len(machine.deeds)))
                  for sketch in range(len(sketches)))
    return tuple(sketches), cover, table


def random_paper(dice, machine):
    """A paper in the form of the attributes that is no paper for any question."""
    many = dice.randint(0, 4)
    numbers = [0, 1, 9, 10, 65535, 999999999]
    sketches = [tuple(dice.choice([1, 3, 10, 65535]) for _ in machine.cells) for _ in range(many)]
    cover = [dice.choice(numbers) for _ in range(dice.randint(0, 3))]
    table = [[[dice.choice(numbers) for _ in range(dice.choice([0, 0, 1, 3]))] for _ in machine.deeds]
             for _ in range(many)]
    return Paper(sketches, cover, table)


class Formatting(unittest.TestCase):
    """Point 52: format_paper."""

    def test_the_example(self):
        self.assertEqual(format_paper(Paper([(1, 3), (2, 3)], [0], [[[], [1, 0]], [[0], []]])), TEXT)

    def test_no_sketches_and_an_empty_cover(self):
        self.assertEqual(format_paper(Paper([], [], [])), "cover\n")
        self.assertEqual(format_paper(Paper([(7,)], [], [[]])), "sketch 7\ncover\n")
        self.assertEqual(format_paper(Paper([(7,), (1,)], [1, 0, 1], [[], []])), "sketch 7\nsketch 1\ncover 1 0 1\n")

    def test_empty_rows_and_empty_entries(self):
        self.assertEqual(format_paper(Paper([(1,), (2,), (3,)], [2], [[[], []], [[], [0, 0]], [[], []]])),
                         "sketch 1\nsketch 2\nsketch 3\ncover 2\nrow 1 1 0 0\n")
        self.assertEqual(format_paper(Paper([(1,)], [0], [[[], [], []]])), "sketch 1\ncover 0\n")

    def test_numbers_of_one_and_of_nine_digits(self):
        self.assertEqual(format_paper(Paper([(65535, 1)], [999999999, 0], [[[], [10, 123456789]]])),
                         "sketch 65535 1\ncover 999999999 0\nrow 0 1 10 123456789\n")

    def test_the_paper_stays_as_it_was(self):
        paper = Paper([(1, 3)], [0], [[[0], []]])
        kept = copy.deepcopy(parts(paper))
        self.assertEqual(format_paper(paper), format_paper(paper))
        self.assertEqual(parts(paper), kept)


class Reading(unittest.TestCase):
    """Point 53: parse_paper."""

    def accepted(self, text, machine=None):
        machine = machine or two_and_two()
        with self.subTest(text):
            paper = parse_paper(machine, text)
            self.assertIsInstance(paper, Paper)
            self.assertEqual(parts(paper), plain_parts(machine, text))
            self.assertEqual(format_paper(paper), text)
        return paper

    def refused(self, *texts):
        for text in texts:
            self.assertIsNone(plain_parts(two_and_two(), text))
            with self.subTest(text), self.assertRaises(PaperSyntaxError):
                parse_paper(two_and_two(), text)

    def test_the_example_read_back(self):
        paper = self.accepted(TEXT)
        self.assertEqual(paper.sketches, ((1, 3), (2, 3)))
        self.assertEqual(paper.cover, (0,))
        self.assertEqual(paper.table, (((), (1, 0)), ((0,), ())))

    def test_all_parts_are_tuples(self):
        paper = parse_paper(two_and_two(), TEXT)
        for part in (paper.sketches, paper.sketches[0], paper.cover, paper.table, paper.table[0], paper.table[0][0]):
            self.assertIsInstance(part, tuple)

    def test_the_least_texts(self):
        self.assertEqual(parts(self.accepted("cover\n")), ((), (), ()))
        self.assertEqual(parts(self.accepted("cover 7 7\n")), ((), (7, 7), ()))
        self.assertEqual(parts(self.accepted("sketch 1 1\ncover\n")), (((1, 1),), (), (((), ()),)))
        no_deeds = Machine([("a", 2)], [], (1,))
        self.assertEqual(parts(self.accepted("sketch 1\nsketch 1\ncover 1\n", no_deeds)), (((1,), (1,)), (1,), ((), ())))

    def test_papers_that_tell_returns(self):
        dice = random.Random(52)
        read = 0
        for _ in range(300):
            machine = samples.random_machine(dice)
            image, piece = samples.random_question(dice, machine)
            answer = tell(machine, image, piece)
            if answer.told:
                paper = self.accepted(format_paper(answer.paper), machine)
                self.assertEqual(parts(paper), parts(answer.paper))
                self.assertIs(judge_paper(machine, image, piece, paper), True)
                read += 1
        self.assertGreater(read, 100)

    def test_drawn_papers(self):
        dice = random.Random(53)
        for _ in range(200):
            machine = samples.random_machine(dice)
            paper = random_paper(dice, machine)
            self.assertEqual(parts(self.accepted(format_paper(paper), machine)), parts(paper))

    def test_numbers_of_nine_and_ten_digits(self):
        self.accepted("cover 999999999\n")
        self.accepted("sketch 1 1\ncover 100000000\nrow 0 0 999999999\n")
        self.refused("cover 1000000000\n", "cover 9999999999\n", "sketch 1 1\ncover 0\nrow 0 0 1000000000\n",
                     "cover " + "1" * 5000 + "\n", "cover 0000000001\n")

    def test_numbers_are_plain(self):
        self.refused("cover 01\n", "cover 00\n", "cover +1\n", "cover -1\n", "cover -0\n", "cover 1.0\n", "cover x\n",
                     "cover 1_0\n", "cover 0x1\n", "cover \u0661\n", "cover \u00b2\n", "sketch 01 1\ncover\n",
                     "sketch +1 1\ncover\n", "sketch 1 1\ncover 0\nrow 00 0 0\n", "sketch 1 1\ncover 0\nrow 0 0 -1\n",
                     "sketch 1 1\ncover 0\nrow 0 -0 0\n", "cover one\n", "cover 1,2\n")

    def test_one_space_before_each_number(self):
        self.refused("cover \n", " cover\n", "cover  1\n", "cover 1 \n", "cover 1  2\n", "cover\t1\n", "cover 1\r\n",
                     "cover 1\x0b\n", "cover1\n", "sketch 1  1\ncover\n", "sketch 1 1 \ncover\n", "sketch  1 1\ncover\n",
                     "sketch 1 1\ncover 0\nrow 0 0 0 \n", "sketch 1 1\ncover 0\nrow 0  0 0\n", "cover\u20281\n")

    def test_line_feeds(self):
        self.refused("", "\n", "\n\n", "cover", "cover 0", TEXT[:-1], TEXT + "\n", TEXT + " ", TEXT + "row 1 1 0",
                     "\n" + TEXT, TEXT.replace("cover", "\ncover"), "sketch 1 1\n\ncover\n", TEXT + "x")

    def test_words(self):
        self.refused("Cover\n", "covers 0\n", "0\n", "sketches 1 1\ncover\n", "cover 0\nRow 0 0 0\n",
                     "sketch 1 1\ncover 0\nrows 0 0 0\n", "sketch 1 1\ncover 0\nx\n")

    def test_masks(self):
        self.accepted("sketch 65535 1\ncover\n")
        self.accepted("sketch 1 65535\nsketch 16 4\ncover\n")
        self.refused("sketch 0 1\ncover\n", "sketch 1 0\ncover\n", "sketch 65536 1\ncover\n", "sketch 1 65536\ncover\n",
                     "sketch 3 3\nsketch 3 0\ncover\n", "sketch 1 999999999\ncover\n")

    def test_too_few_and_too_many_masks(self):
        self.refused("sketch\ncover\n", "sketch 1\ncover\n", "sketch 1 1 1\ncover\n", "sketch 1 1\nsketch 1\ncover\n",
                     "sketch 1 1 1 1\ncover\n")
        one = Machine([("a", 2)], [], (1,))
        self.accepted("sketch 1\ncover\n", one)
        with self.assertRaises(PaperSyntaxError):
            parse_paper(one, "sketch 1 1\ncover\n")

    def test_rows(self):
        start = "sketch 1 1\nsketch 2 2\ncover 0\n"
        self.accepted(start + "row 0 0 5\nrow 0 1 0 0 0\nrow 1 0 1\nrow 1 1 9\n")
        self.accepted(start + "row 1 1 1\n")
        self.refused(start + "row\n", start + "row 0\n", start + "row 0 0\n", start + "row 1 1\n",
                     start + "row 2 0 0\n", start + "row 0 2 0\n", start + "row 9 9 0\n", "cover\nrow 0 0 0\n",
                     start + "row 0 0 0\nrow 0 0 0\n", start + "row 0 0 0\nrow 0 0 1\n", start + "row 0 1 0\nrow 0 0 0\n",
                     start + "row 1 0 0\nrow 0 1 0\n", start + "row 0 0 0\nrow 1 0 0\nrow 0 1 0\n",
                     start + "row 1 1 0\nrow 0 0 0\n", start + "row 1 0 0\nrow 1 0 0\n")
        for machine in (Machine([("a", 2)], [], (1,)), Machine([("a", 2)], [("go", (), ())], (1,))):
            with self.assertRaises(PaperSyntaxError):
                parse_paper(machine, "sketch 1\ncover 0\nrow 0 1 0\n")

    def test_lines_after_their_place(self):
        self.refused("sketch 1 1\n", "cover 0\nsketch 1 1\n", "cover 0\ncover 0\n", "sketch 1 1\nrow 0 0 0\ncover 0\n",
                     "sketch 1 1\ncover 0\nrow 0 0 0\ncover 0\n", "sketch 1 1\ncover 0\nrow 0 0 0\nsketch 1 1\n",
                     "row 0 0 0\n", "sketch 1 1\nrow 0 0 0\n", "cover\ncover\n")

    def test_indexes_need_not_exist(self):
        paper = self.accepted("sketch 1 1\ncover 5 6 7\nrow 0 1 8 9\n")
        self.assertEqual(parts(paper), (((1, 1),), (5, 6, 7), (((), (8, 9)),)))
        self.assertIs(judge_paper(two_and_two(), (1, 1), [], paper), False)

    def test_many_texts_with_a_mistake(self):
        dice = random.Random(530)
        machine = two_and_two()
        refused = 0
        for _ in range(3000):
            text = list(format_paper(random_paper(dice, machine)))
            for _ in range(dice.randint(1, 2)):
                at = dice.randrange(len(text)) if text else 0
                text[at:at + dice.randint(0, 1)] = dice.choice(["", " ", "\n", "0", "1", "row", "\ncover\n", "-", "x"])
            text = "".join(text)
            expected = plain_parts(machine, text)
            if expected is None:
                refused += 1
                with self.subTest(text), self.assertRaises(PaperSyntaxError):
                    parse_paper(machine, text)
            else:
                self.accepted(text, machine)
        self.assertTrue(1000 < refused < 2900)

    def test_a_long_text(self):
        machine = Machine([("a", 2)], [(f"d{number}", (), ()) for number in range(400)], (1,))
        text = "sketch 1\n" * 11000 + "cover\n"
        self.assertEqual(len(parse_paper(machine, text).table), 11000)

    def test_two_calls_give_equal_papers(self):
        self.assertEqual(parts(parse_paper(two_and_two(), TEXT)), parts(parse_paper(two_and_two(), TEXT)))


if __name__ == "__main__":
    unittest.main()
