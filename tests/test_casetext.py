"""Points 65 to 67, and the heading raisedwreck/casetext.py."""

import copy
import random
import unittest

from raisedwreck.casetext import Case, answer_case, format_case, format_sketch, parse_case
from raisedwreck.chains import ChainForm, chain_machine, chain_piece
from raisedwreck.errors import CaseSyntaxError, InvalidSketch
from raisedwreck.machines import Machine
from raisedwreck.machinetext import format_machine
from raisedwreck.reports import report
from tests import samples, texts

WRONG_SKETCHES = ((), (3,), (3, 7, 1), (0, 7), (3, 0), (4, 7), (3, 8), (-1, 7))

EXAMPLE = ("cell a 3\nfirst a 0\ndeed up\nwhen a 0\nset a 1\ndeed on\nwhen a 1\nset a 2\nimage\nat a 2\n"
           "ask was one\nor\nat a 1\nask never\n")

TWO_CELLS = "cell a 2\ncell b 3\n"
START = TWO_CELLS + "image\n"
ASKED = START + "ask x\nor\n"
WHOLE = (TWO_CELLS + "first b 0\ndeed go\nwhen a 0\ncopy b a\nimage\nat a 1\nat b 0 2\nask one\nor\nat b 1\nor\nor\nat a 0\n"
         "at b 2\nask none\nask all of them\nor\n")


def two_cells():
    return Machine([("a", 2), ("b", 3)], [("go", ((0, 1),), ((1, ("copy", 0)),))], (3, 1))


def parts(case):
    machine = case.machine
    return (machine.cells, machine.deeds, machine.first), case.image, case.questions


def plain_sketch(machine, sketch):
    """The text of a sketch, as point 65 says."""
    text = ""
    for (name, size), mask in zip(machine.cells, sketch):
        values = [str(value) for value in range(size) if mask & (1 << value)]
        if len(values) < size:
            text += "at " + name + " " + " ".join(values) + "\n"
    return text


def plain_case(machine, image, questions):
    """The text of a case, as point 66 says."""
    text = format_machine(machine) + "image\n" + plain_sketch(machine, image)
    for label, piece in questions:
        text += "ask " + label + "\n"
        for sketch in piece:
            text += "or\n" + plain_sketch(machine, sketch)
    return text


def loosely_read(lines):
    """What lines might mean, with no look at their order; it fails in any way if they mean nothing."""
    machine = texts.loosely_read(lines[:lines.index("image")])
    names = [name for name, _ in machine.cells]
    image, questions = list(machine.full), []
    sketch = image
    for line in lines[lines.index("image") + 1:]:
        if line.startswith("ask "):
            questions.append((line[4:], []))
        elif line == "or":
            sketch = list(machine.full)
            questions[-1][1].append(sketch)
        else:
            word, name, *values = line.split(" ")
            if word != "at":
                raise ValueError(word)
            sketch[names.index(name)] = texts.mask_of(values)
    if not all(samples.plain_fits(machine, sketch) for _, piece in questions for sketch in piece):
        raise ValueError("a sketch")
    if not all(label and "\n" not in label for label, _ in questions):
        raise ValueError("a label")
    return machine, tuple(image), questions


def is_whole_case(text):
    """True if a text is a case: then it is that of what it might mean."""
    try:
        return plain_case(*loosely_read(text.split("\n")[:-1])) == text
    except (ValueError, KeyError, IndexError):
        return False


def first_wrong_line(text):
    """The index that point 67 asks for, or None if a text is a case.

    Behind each line of a case it may end, from the line image on; and this line may follow each line of the machine.
    """
    lines = text.split("\n")
    for index in range(len(lines) - 1):
        start = "".join(line + "\n" for line in lines[:index + 1])
        if not is_whole_case(start) and not is_whole_case(start + "image\n"):
            return index
    return len(lines) - 1 if lines[-1] or "image" not in lines else None


class Sketches(unittest.TestCase):
    """Point 65: format_sketch."""

    def test_cells_without_the_set_of_all_values(self):
        machine = two_cells()
        self.assertEqual(format_sketch(machine, (2, 5)), "at a 1\nat b 0 2\n")
        self.assertEqual(format_sketch(machine, (1, 7)), "at a 0\n")
        self.assertEqual(format_sketch(machine, (3, 4)), "at b 2\n")
        self.assertEqual(format_sketch(machine, (3, 7)), "")

    def test_large_and_small_cells(self):
        machine = Machine([("b", 16), ("a", 1), ("c", 16)], [], (1, 1, 1))
        self.assertEqual(format_sketch(machine, (64513, 1, 65535)), "at b 0 10 11 12 13 14 15\n")
        self.assertEqual(format_sketch(machine, (32768, 1, 2)), "at b 15\nat c 1\n")

    def test_many_sketches(self):
        dice = random.Random(65)
        for _ in range(200):
            machine = samples.random_machine(dice, 6, 16)
            sketch = samples.random_sketch(dice, machine.full)
            self.assertEqual(format_sketch(machine, sketch), plain_sketch(machine, sketch))

    def test_wrong_sketches(self):
        for wrong in WRONG_SKETCHES:
            with self.subTest(wrong), self.assertRaises(InvalidSketch):
                format_sketch(two_cells(), wrong)


class Formatting(unittest.TestCase):
    """Point 66: format_case."""

    def test_the_parts_in_their_order(self):
        questions = [("one", [(3, 2), (3, 7), (1, 4)]), ("none", []), ("all of them", [(3, 7)])]
        self.assertEqual(format_case(two_cells(), (2, 5), questions), WHOLE)

    def test_the_least_case(self):
        self.assertEqual(format_case(Machine([("a", 1)], [], (1,)), (1,), []), "cell a 1\nimage\n")

    def test_labels(self):
        machine = Machine([("a", 1)], [], (1,))
        for label in ("a", "two words", " ", "  x  ", "or", "at a 0", "ask", ":", "image", "\u00fc\t\r"):
            self.assertEqual(format_case(machine, (1,), [(label, [])]), "cell a 1\nimage\nask " + label + "\n")

    def test_wrong_sketches(self):
        machine = two_cells()
        for wrong in WRONG_SKETCHES:
            for image, questions in ((wrong, []), ((3, 7), [("a", [wrong])]), (wrong, [("a", [wrong])]),
                                     ((3, 7), [("a", []), ("b", [(1, 1), wrong])])):
                with self.subTest(wrong), self.assertRaises(InvalidSketch):
                    format_case(machine, image, questions)

    def test_nothing_is_modified_and_two_calls_agree(self):
        questions = [("a", [(1, 2)]), ("b", [])]
        kept = copy.deepcopy(questions)
        self.assertEqual(format_case(two_cells(), (3, 1), questions), format_case(two_cells(), (3, 1), questions))
        self.assertEqual(questions, kept)


class Cases(unittest.TestCase):
    """The class Case."""

    def test_a_case_copies_what_it_is_passed(self):
        machine = two_cells()
        questions = [("a", [(1, 2)]), ("b", [])]
        case = Case(machine, (3, 7), questions)
        questions[0][1].append((3, 3))
        questions[1][1].clear()
        questions.append(("c", []))
        self.assertEqual(case.questions, (("a", ((1, 2),)), ("b", ())))
        self.assertEqual(parts(case)[0], (machine.cells, machine.deeds, machine.first))
        self.assertEqual(case.image, (3, 7))

    def test_all_sequences_are_tuples(self):
        for case in (Case(two_cells(), (3, 7), [("a", [(1, 2)])]), parse_case(ASKED + "at a 0\nat b 1\n")):
            (label, piece), = case.questions
            self.assertIsInstance(label, str)
            for part in (case.image, case.questions, case.questions[0], piece, piece[0]):
                self.assertIsInstance(part, tuple)
            self.assertIsInstance(case.machine, Machine)
            self.assertEqual(piece, ((1, 2),))


class Reading(unittest.TestCase):
    """Points 66 and 67: parse_case."""

    def refused(self, text, index):
        for function in (parse_case, answer_case):
            with self.subTest(text), self.assertRaises(CaseSyntaxError) as caught:
                function(text)
            with self.subTest(text):
                self.assertEqual(caught.exception.line, index)
        with self.subTest(text):
            if text.count("\n") < 100:
                self.assertEqual(first_wrong_line(text), index)

    def refused_last(self, *texts):
        """Each text is refused for its last line, whatever comes behind it."""
        for text in texts:
            index = text.count("\n") - 1
            self.refused(text, index)
            self.refused(text + "ask onward\nno line\n", index)
            self.refused(text + "rest", index)

    def accepted(self, text):
        with self.subTest(text):
            case = parse_case(text)
            self.assertIsInstance(case, Case)
            self.assertEqual(format_case(case.machine, case.image, case.questions), text)
            self.assertIsNone(first_wrong_line(text))
        return case

    def test_the_whole_example(self):
        case = self.accepted(WHOLE)
        machine = two_cells()
        self.assertEqual(parts(case), (
            (machine.cells, machine.deeds, machine.first), (2, 5),
            (("one", ((3, 2), (3, 7), (1, 4))), ("none", ()), ("all of them", ((3, 7),)))))

    def test_what_was_written_is_read_back(self):
        dice = random.Random(66)
        for _ in range(300):
            machine = samples.random_machine(dice, 5, 16)
            image, _ = samples.random_question(dice, machine)
            questions = [(f"{number} q", samples.random_question(dice, machine)[1])
                         for number in range(dice.randint(0, 3))]
            case = parse_case(format_case(machine, image, questions))
            self.assertEqual(parts(case), ((machine.cells, machine.deeds, machine.first), image,
                                           tuple((label, tuple(piece)) for label, piece in questions)))

    def test_labels(self):
        for label in ("a", "two words", " ", "  x  ", "or", "at a 0", "ask", "ask x", "image", "\u00fc\t\r\x0b\u2028"):
            self.assertEqual(self.accepted(START + "ask " + label + "\n").questions, ((label, ()),))
        self.refused_last(START + "ask\n", START + "ask \n", ASKED + "ask \n", ASKED + "ask\n", START + "asks x\n",
                          START + "Ask x\n", START + " ask x\n", START + "ask\tx\n", START + "askx\n")

    def test_no_question_and_pieces_without_sketches(self):
        self.assertEqual(self.accepted(START).questions, ())
        self.assertEqual(self.accepted(START + "at b 1\n").image, (3, 2))
        self.assertEqual(self.accepted(START + "ask x\nask x\n").questions, (("x", ()), ("x", ())))
        self.assertEqual(self.accepted(START + "ask x\nor\nor\n").questions, (("x", ((3, 7), (3, 7))),))

    def test_the_last_line_feed_and_the_line_image(self):
        for text, index in (("", 0), ("x", 0), ("image", 0), ("cell a 2", 0), ("cell a 2\n", 1), ("cell a 2\nimage", 1),
                            ("cell a 2\nimage\n ", 2), (TWO_CELLS, 2), (TWO_CELLS + "deed go\nset a 0\n", 4),
                            (START + "ask x", 3), (START + "at b", 3), (WHOLE[:-1], WHOLE.count("\n") - 1),
                            (WHOLE + "or", WHOLE.count("\n")), (WHOLE + "x", WHOLE.count("\n"))):
            self.refused(text, index)

    def test_a_machine_with_a_mistake(self):
        self.refused_last("image\n", "\n", "at a 0\n", "ask x\n", "or\n", "cell a 0\n", TWO_CELLS + "cell a 3\n",
                          TWO_CELLS + "first a 0 1\n", TWO_CELLS + "set a 0\n", TWO_CELLS + "deed go\nset a 2\n",
                          TWO_CELLS + "first b 0\nfirst a 0\n", TWO_CELLS + "deed go\nset a 0\nwhen a 0\n",
                          TWO_CELLS + "deed go\ndeed go\n", TWO_CELLS + "\n")

    def test_image_may_follow_each_line_of_a_machine(self):
        lines = "cell a 2\ncell b 3\nfirst b 0\ndeed go\nwhen a 0\ncopy b a\ndeed on\nset a 0\n".split("\n")[:-1]
        for many in range(1, len(lines) + 1):
            self.accepted("".join(line + "\n" for line in lines[:many]) + "image\n")

    def test_lines_of_the_case_before_the_image(self):
        for line in ("at a 0\n", "ask x\n", "or\n"):
            self.refused_last(TWO_CELLS + line, TWO_CELLS + "deed go\n" + line)

    def test_lines_of_the_machine_behind_the_image(self):
        for line in ("cell c 2\n", "first a 0\n", "deed go\n", "when a 0\n", "set a 0\n", "copy a a\n", "image\n"):
            self.refused_last(START + line, START + "at a 0\n" + line, START + "ask x\n" + line, ASKED + line)

    def test_lines_at_a_wrong_place(self):
        self.refused_last(START + "or\n", START + "at a 0\nor\n", START + "ask x\nat a 0\n",
                          ASKED + "at a 0\nask y\nat b 0\n", START + "at a 0\nask x\nat b 0\n")

    def test_words_and_spaces(self):
        self.refused_last(START + "\n", START + " \n", START + "x\n", ASKED + "\n", TWO_CELLS + "image \n",
                          TWO_CELLS + " image\n", TWO_CELLS + "image x\n", TWO_CELLS + "Image\n", TWO_CELLS + "images\n",
                          START + "ask x\nor \n", START + "ask x\nor x\n", START + "ask x\n or\n", START + "ask x\nOr\n")
        for start in (START, ASKED):
            self.refused_last(*[start + line for line in (
                "at\n", "at \n", "at a\n", "at a \n", "at  a 0\n", "at a  0\n", "at a 0 \n", " at a 0\n", "at\ta 0\n",
                "at a 0\r\n", "At a 0\n", "ats a 0\n", "at b 0  1\n", "at 0\n", "at a,0\n")])

    def test_names_and_values(self):
        for start in (START, ASKED):
            self.refused_last(*[start + line for line in (
                "at c 0\n", "at A 0\n", "at go 0\n", "at a 2\n", "at b 3\n", "at a 0 1\n", "at b 0 1 2\n", "at b 1 0\n",
                "at b 1 1\n", "at b 2 1\n", "at b 00\n", "at b 01\n", "at b -1\n", "at b +1\n", "at b x\n",
                "at b 0 1 2 3\n", "at b 0\nat a 0\n", "at a 0\nat a 1\n", "at b 0\nat b 0\n", "at b 1" + "0" * 5000 + "\n",
                "at b \u0661\n")])
            self.accepted(start + "at a 1\nat b 0 2\n")
            self.accepted(start + "at b 1 2\n")
        self.refused_last("cell a 1\nimage\nat a 0\n", "cell a 1\nimage\nat a 1\n")

    def test_each_sketch_begins_with_all_cells_again(self):
        case = self.accepted(START + "at b 0\nask x\nor\nat a 0\nat b 1\nor\nat a 1\nask y\nor\nat a 0\n")
        self.assertEqual(case.image, (3, 1))
        self.assertEqual(case.questions, (("x", ((1, 2), (2, 7))), ("y", ((1, 7),))))

    def test_the_first_wrong_line_of_several(self):
        self.refused("cell a 2\ncell b 0\nimage\nx\n", 1)
        self.refused(WHOLE + "at a 0\nask \nx", WHOLE.count("\n") + 1)
        self.refused(START + "or\nor\n", 3)

    def test_many_texts_with_one_mistake(self):
        dice = random.Random(67)
        wrong = 0
        for _ in range(2500):
            machine = samples.random_machine(dice, 3, 4, 2)
            questions = [(dice.choice(["a", "b c", "or", "1"]), samples.random_question(dice, machine)[1])
                         for _ in range(dice.randint(0, 3))]
            text = format_case(machine, samples.random_question(dice, machine)[0], questions)
            for _ in range(dice.randint(1, 2)):
                text = texts.spoilt(dice, text)
            index = first_wrong_line(text)
            if index is None:
                self.accepted(text)
            else:
                wrong += 1
                self.refused(text, index)
        self.assertTrue(1000 < wrong < 2450)

    def test_a_long_text(self):
        text = "cell a 2\nimage\n" + "ask a\nor\nat a 0\n" * 6000
        self.assertEqual(len(parse_case(text).questions), 6000)

    def test_two_calls_give_equal_cases(self):
        self.assertEqual(parts(parse_case(WHOLE)), parts(parse_case(WHOLE)))


class Answering(unittest.TestCase):
    """Point 67: answer_case."""

    def test_the_example(self):
        self.assertEqual(answer_case(EXAMPLE), "was one: told\nnever: impossible\n")

    def test_the_four_words(self):
        # From 0 over 1 or 2 to 3, and from 0 to 4.
        machine = "cell a 6\nfirst a 0\n" + "".join(
            f"deed d{start}{end}\nwhen a {start}\nset a {end}\n" for start, end in
            ((0, 1), (0, 2), (1, 3), (2, 3), (0, 4)))
        questions = "".join(f"ask was {value}\nor\nat a {value}\n" for value in range(5)) + "ask 1 or 2\nor\nat a 1\nor\nat a 2\n"
        self.assertEqual(answer_case(machine + "image\nat a 3\n" + questions),
                         "was 0: told\nwas 1: possible\nwas 2: possible\nwas 3: told\nwas 4: impossible\n1 or 2: told\n")
        self.assertEqual(answer_case(machine + "image\nat a 5\n" + questions), "contradictory a\n")
        self.assertEqual(answer_case(machine + "image\nat a 5\n"), "contradictory a\n")
        self.assertEqual(answer_case(machine + "image\nat a 3\n"), "")

    def test_the_answer_is_the_report(self):
        dice = random.Random(670)
        for _ in range(200):
            machine = samples.random_machine(dice)
            image, _ = samples.random_question(dice, machine)
            questions = [(f"q {number}", samples.random_question(dice, machine)[1]) for number in range(3)]
            self.assertEqual(answer_case(format_case(machine, image, questions)), report(machine, image, questions))

    def test_a_file_that_was_deleted(self):
        form = ChainForm(1, 2, 2, 1)
        machine = chain_machine(form)
        questions = [(f"file 0 was {value}", chain_piece(form, 0, (value,))) for value in range(2)]
        text = format_case(machine, machine.full[:3] + (2, 1), questions)
        self.assertEqual(answer_case(text), "file 0 was 0: possible\nfile 0 was 1: told\n")

    def test_a_text_that_is_no_case(self):
        for text, index in (("", 0), ("cell a 2\n", 1), ("cell a 2\nimage\nor\n", 2), (EXAMPLE[:-1], 13)):
            with self.subTest(text), self.assertRaises(CaseSyntaxError) as caught:
                answer_case(text)
            self.assertEqual(caught.exception.line, index)


if __name__ == "__main__":
    unittest.main()
