"""Points 48 and 49, and the heading raisedwreck/reports.py."""

import copy
import itertools
import random
import unittest

from raisedwreck.chains import ChainForm, chain_machine, chain_piece
from raisedwreck.errors import InvalidSketch
from raisedwreck.explaining import core
from raisedwreck.machines import Machine
from raisedwreck.reports import judgement, possible, report
from raisedwreck.stripes import StripeForm, stripe_machine
from tests import samples

WRONG_SKETCHES = ((), (3,), (3, 3, 3), (0, 3), (3, 0), (4, 3), (3, 4), (-1, 3))


def forked():
    """One cell: from 0 to 1 or 2, from both to 3; and from 0 to 4, from where nothing leads on. Nothing leads to 5."""
    deeds = [(f"d{start}{end}", ((0, 1 << start),), ((0, ("set", end)),))
             for start, end in ((0, 1), (0, 2), (1, 3), (2, 3), (0, 4))]
    return Machine([("a", 6)], deeds, (1,))


def value(*values):
    """The piece that the cell has one of some values."""
    return [tuple([sum(1 << number for number in values)])]


def plain_report(machine, image, questions):
    """The report, line by line, from the judgements and the core that a walk over all disks gives."""
    lines = []
    if samples.plain_judgement(machine, image, []) == "contradictory":
        lines.append("contradictory" + "".join(" " + machine.cells[cell][0]
                                               for cell in samples.plain_core(machine, image)))
        questions = []
    for label, piece in questions:
        lines.append(label + ": " + samples.plain_judgement(machine, image, piece))
    return "".join(line + "\n" for line in lines)


class Judgements(unittest.TestCase):
    """Point 48: possible and judgement."""

    def check(self, machine, image, piece):
        """Compare with a walk over all disks; return the judgement."""
        expected = samples.plain_judgement(machine, image, piece)
        self.assertEqual(judgement(machine, image, piece), expected)
        if expected == "contradictory":
            self.assertIs(possible(machine, image, piece), False)
        else:
            # A told piece of an image that is not contradictory occurs in some history.
            self.assertIs(possible(machine, image, piece), expected != "impossible")
        return expected

    def test_the_four_words(self):
        machine = forked()
        self.assertEqual(judgement(machine, (8,), value(0)), "told")
        self.assertEqual(judgement(machine, (8,), value(1)), "possible")
        self.assertEqual(judgement(machine, (8,), value(4)), "impossible")
        self.assertEqual(judgement(machine, (32,), value(0)), "contradictory")

    def test_possible(self):
        machine = forked()
        self.assertIs(possible(machine, (8,), value(0)), True)
        self.assertIs(possible(machine, (8,), value(1)), True)
        self.assertIs(possible(machine, (8,), value(1, 2)), True)
        self.assertIs(possible(machine, (8,), value(4)), False)
        self.assertIs(possible(machine, (8,), value(5)), False)
        self.assertIs(possible(machine, (32,), value(0)), False)

    def test_every_image_and_piece_of_one_cell(self):
        machine = forked()
        for image in range(1, 64):
            for piece in range(1, 64):
                self.check(machine, (image,), [(piece,)])

    def test_the_empty_piece(self):
        machine = forked()
        for image in range(1, 64):
            self.assertIs(possible(machine, (image,), []), False)
            self.assertEqual(judgement(machine, (image,), []), "contradictory" if image == 32 else "impossible")

    def test_a_piece_that_is_the_image_itself(self):
        machine = forked()
        for number in range(6):
            image = (1 << number,)
            self.assertIs(possible(machine, image, [image]), number < 5)
            self.assertEqual(judgement(machine, image, [image]), "told" if number < 5 else "contradictory")

    def test_a_piece_only_of_histories_that_go_elsewhere(self):
        machine = forked()
        self.assertEqual(self.check(machine, (8,), value(4)), "impossible")
        self.assertEqual(self.check(machine, (2,), value(2)), "impossible")
        self.assertEqual(self.check(machine, (1,), value(3)), "impossible")

    def test_a_piece_that_some_but_not_all_histories_have(self):
        machine = forked()
        self.assertEqual(self.check(machine, (8,), value(2)), "possible")
        self.assertEqual(self.check(machine, (24,), value(3)), "possible")
        self.assertEqual(self.check(machine, (8,), value(1, 2)), "told")

    def test_a_piece_between_two_moments_of_one_deed(self):
        # Both ways to the image must be gone through, and the piece stands on the longer one.
        deeds = [("short", ((0, 1),), ((0, ("set", 3)),)), ("one", ((0, 1),), ((0, ("set", 1)),)),
                 ("two", ((0, 2),), ((0, ("set", 2)),)), ("three", ((0, 4),), ((0, ("set", 3)),))]
        machine = Machine([("a", 4)], deeds, (1,))
        self.assertEqual(self.check(machine, (8,), [(2,)]), "possible")
        self.assertEqual(self.check(machine, (8,), [(2,), (4,)]), "possible")
        self.assertEqual(self.check(machine, (4,), [(8,)]), "impossible")

    def test_a_piece_through_which_no_way_leads(self):
        # The disk of the piece leads into the image, but no history leads there.
        deeds = [("go", ((0, 1),), ((0, ("set", 2)),)), ("up", ((0, 2),), ((0, ("set", 2)),))]
        machine = Machine([("a", 3)], deeds, (1,))
        self.assertEqual(self.check(machine, (4,), [(2,)]), "impossible")
        self.assertEqual(self.check(machine, (4,), [(2,), (4,)]), "told")

    def test_many_machines(self):
        dice = random.Random(48)
        counts = {}
        for _ in range(900):
            machine = samples.random_machine(dice)
            found = self.check(machine, *samples.random_question(dice, machine))
            counts[found] = counts.get(found, 0) + 1
        self.assertEqual(sorted(counts), ["contradictory", "impossible", "possible", "told"])
        self.assertGreater(min(counts.values()), 30)

    def test_a_family_of_file_systems(self):
        dice = random.Random(480)
        form = ChainForm(1, 2, 2, 2)
        machine = chain_machine(form)
        reached = sorted(samples.reached(machine))
        pieces = [chain_piece(form, 0, contents) for contents in ((0,), (1,), (0, 1), (1, 1))]
        words = set()
        for _ in range(60):
            disk = dice.choice(reached)
            image = tuple(most if dice.random() < 0.4 else 1 << number for number, most in zip(disk, machine.full))
            words.add(self.check(machine, image, dice.choice(pieces)))
        self.assertEqual(words, {"told", "possible", "impossible"})

    def test_wrong_sketches(self):
        machine = samples.swapping()
        for function in (possible, judgement):
            for wrong in WRONG_SKETCHES:
                with self.subTest(wrong):
                    for image, piece in ((wrong, []), ((1, 2), [wrong]), ((1, 2), [(1, 2), wrong]), ((1, 1), [wrong])):
                        with self.assertRaises(InvalidSketch):
                            function(machine, image, piece)

    def test_nothing_is_modified_and_two_calls_agree(self):
        machine = forked()
        piece = value(1)
        for function in (possible, judgement):
            self.assertEqual(function(machine, (8,), piece), function(machine, (8,), tuple(piece)))
        self.assertEqual(piece, [(2,)])


class Reports(unittest.TestCase):
    """Point 49: report."""

    def test_line_by_line(self):
        questions = [("begin", value(0)), ("left", value(1)), ("dead end", value(4)), ("either", value(1, 2)),
                     ("none", [])]
        self.assertEqual(report(forked(), (8,), questions), "begin: told\nleft: possible\ndead end: impossible\n"
                                                            "either: told\nnone: impossible\n")

    def test_labels_of_several_kinds(self):
        labels = ["", " ", "a", "Two words", "x: y", "told", "contradictory", "a", "1", "\u00fc \t"]
        self.assertEqual(report(forked(), (8,), [(label, value(0)) for label in labels]),
                         "".join(label + ": told\n" for label in labels))

    def test_no_question(self):
        self.assertEqual(report(forked(), (8,), []), "")
        self.assertEqual(report(forked(), (32,), []), "contradictory a\n")

    def test_a_contradictory_image(self):
        machine = stripe_machine(StripeForm(2))
        self.assertEqual(report(machine, (2, 1, 1, 1), [("a", []), ("b", [(3,) * 3 + (7,)])]),
                         "contradictory d0 d1 p w\n")
        self.assertEqual(report(machine, (2, 1, 1, 3), []), "")

    def test_the_core_is_never_empty(self):
        # Some first disk is in the image of all disks, so a contradiction needs at least one cell.
        machine = Machine([("a", 2), ("b", 2)], [], (1, 1))
        lines = {(2, 2): "contradictory b\n", (2, 1): "contradictory a\n", (2, 3): "contradictory a\n",
                 (1, 2): "contradictory b\n", (3, 2): "contradictory b\n"}
        for image in itertools.product((1, 2, 3), repeat=2):
            self.assertEqual(report(machine, image, []), lines.get(image, ""))

    def test_the_names_of_the_core_stand_in_the_order_of_the_cells(self):
        machine = Machine([("z", 2), ("b", 2), ("y", 2), ("a", 2)],
                          [("up", (), ((0, ("set", 1)), (3, ("set", 1)))), ("b", (), ((1, ("set", 1)),))], (1,) * 4)
        self.assertEqual(report(machine, (2, 2, 1, 1), []), "contradictory z a\n")
        self.assertEqual(report(machine, (1, 1, 2, 2), []), "contradictory y\n")
        self.assertEqual(report(machine, (3, 1, 3, 2), [("x", [])]), "x: impossible\n")

    def test_a_core_is_that_of_point_28(self):
        machine = samples.swapping()
        for image in ((1, 1), (2, 2)):
            names = [machine.cells[cell][0] for cell in core(machine, image)]
            self.assertEqual(report(machine, image, [("x", [])]), " ".join(["contradictory"] + names) + "\n")

    def test_many_machines(self):
        dice = random.Random(49)
        contradictory = 0
        for _ in range(250):
            machine = samples.random_machine(dice)
            image, piece = samples.random_question(dice, machine)
            questions = [(f"q{number}", samples.random_question(dice, machine)[1]) for number in range(3)]
            questions.append(("last", piece))
            found = report(machine, image, questions)
            self.assertEqual(found, plain_report(machine, image, questions))
            contradictory += found.startswith("contradictory")
        self.assertTrue(20 < contradictory < 200)

    def test_wrong_sketches(self):
        machine = samples.swapping()
        for image in ((1, 2), (1, 1)):
            for wrong in WRONG_SKETCHES:
                for questions in ([("a", [wrong])], [("a", []), ("b", [(1, 2), wrong])], [("a", [wrong]), ("b", [])]):
                    with self.subTest((image, wrong)), self.assertRaises(InvalidSketch):
                        report(machine, image, questions)
        for wrong in WRONG_SKETCHES:
            for questions in ([], [("a", [])], [("a", [(0, 0)])]):
                with self.subTest(wrong), self.assertRaises(InvalidSketch):
                    report(machine, wrong, questions)

    def test_nothing_is_modified_and_two_calls_agree(self):
        questions = [("a", value(1)), ("b", [])]
        kept = copy.deepcopy(questions)
        self.assertEqual(report(forked(), (8,), questions), report(forked(), (8,), tuple(questions)))
        self.assertEqual(questions, kept)


if __name__ == "__main__":
    unittest.main()
