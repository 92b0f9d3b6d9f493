"""The interface as a whole: where each name is defined and what it takes, and points 2 and 4 for each function."""

import ast
import copy
import importlib
import inspect
import os
import unittest

from raisedwreck.between import BetweenPaper
from raisedwreck.chains import ChainForm
from raisedwreck.errors import WreckError
from raisedwreck.extents import ExtentForm
from raisedwreck.journals import JournalForm
from raisedwreck.logs import LogForm
from raisedwreck.machines import Machine
from raisedwreck.roots import RootForm
from raisedwreck.stripes import StripeForm
from raisedwreck.telling import Paper
from raisedwreck.timelines import OrderPaper
from tests import samples

FOLDER = os.path.join(os.path.dirname(os.path.dirname(os.path.abspath(__file__))), "raisedwreck")

# Each function and class, below its module.
INTERFACE = """
machines
    Machine(cells, deeds, first)
    check_disk(machine, disk)
    check_sketch(machine, sketch)
    can_do(machine, disk, deed)
    after(machine, disk, deed)
    moments(machine, disk, deeds)
machinetext
    format_machine(machine)
    parse_machine(text)
sketches
    contains(sketch, disk)
    meet(a, b)
    included(a, b)
    without(a, piece)
    has_piece(piece, disk)
    count_disks(sketch)
    least_disk(sketch)
    all_disks(sketch)
regression
    before(machine, sketch, deed)
telling
    Paper(sketches, cover, table)
    Answer(told, paper, disk, deeds)
    tell(machine, image, piece)
judging
    judge_paper(machine, image, piece, paper)
    judge_history(machine, image, piece, disk, deeds)
timelines
    OrderPaper(reach, cover, table, sketches, links, steps)
    OrderAnswer(told, paper, disk, deeds, moment)
    tell_order(machine, image, early, late)
    judge_order(machine, image, early, late, paper)
    judge_moment(machine, image, early, late, disk, deeds, moment)
    told_at_end(machine, image, piece)
explaining
    explanation(machine, image)
    count_histories(machine, image, length)
    core(machine, image)
    told_readings(machine, image, cells)
chains
    ChainForm(files, blocks, alphabet, longest, *, wiped=True)
    chain_machine(form)
    chain_files(form, disk)
    chain_write(form, disk, file, contents)
    chain_overwrite(form, disk, file, contents)
    chain_delete(form, disk, file)
    chain_piece(form, file, contents)
extents
    ExtentForm(files, blocks, alphabet, longest)
    extent_machine(form)
    extent_files(form, disk)
    extent_write(form, disk, file, contents)
    extent_overwrite(form, disk, file, contents)
    extent_delete(form, disk, file)
    extent_piece(form, file, contents)
logs
    LogForm(files, slots, alphabet)
    log_machine(form)
    log_files(form, disk)
    log_put(form, disk, file, value)
    log_remove(form, disk, file)
    log_piece(form, file, value)
    log_record(form, file, value)
journals
    JournalForm(alphabet)
    journal_machine(form)
    journal_log(form, disk, file, value)
    journal_commit(form, disk)
    journal_apply(form, disk, file)
    journal_done(form, disk)
    journal_crash(form, disk)
    journal_recovered(form, disk)
    journal_piece(form, first, second)
roots
    RootForm(blocks, alphabet)
    root_machine(form)
    root_value(form, disk, *, former=False)
    root_update(form, disk, value, *, torn=False)
    root_piece(form, value, *, former=False)
reports
    possible(machine, image, piece)
    judgement(machine, image, piece)
    report(machine, image, questions)
together
    side_by_side(first, second)
    widened(first, second, sketch, *, of_second=False)
papertext
    format_paper(paper)
    parse_paper(machine, text)
doings
    lacking(machine, deeds)
    tell_deeds(machine, image, deeds)
    told_deeds(machine, image)
    last_deeds(machine, image)
    is_fresh(machine, image)
    tell_within(machine, image, piece, limit)
between
    BetweenPaper(sketches, cover, table, links, roots, steps)
    BetweenAnswer(told, paper, disk, deeds, moment)
    tell_between(machine, earlier, later, piece)
    judge_between(machine, earlier, later, piece, paper)
    judge_passage(machine, earlier, later, piece, disk, deeds, moment)
    deciding_cells(machine, image, piece)
inside
    inside(outer, inner, places, guard)
    inner_sketch(outer, inner, places, sketch)
stripes
    StripeForm(alphabet)
    stripe_machine(form)
    stripe_begin(form, disk, number, value)
    stripe_end(form, disk)
    stripe_rebuild(form, disk, number)
casetext
    format_sketch(machine, sketch)
    format_case(machine, image, questions)
    Case(machine, image, questions)
    parse_case(text)
    answer_case(text)
"""

MACHINE = samples.three_steps()
SWAPPING = samples.swapping()
PAPER = Paper([(4,)], [0], [[[], []]])
ORDER_PAPER = OrderPaper([(4,), (2,), (1,)], [0], [[[], [1]], [[2], []], [[], []]], [(4,)], [[0], [], []], [[[], []]])
BETWEEN_PAPER = BetweenPaper([(4,)], [0], [[[], []]], [[]], [], [])
CHAINS, EXTENTS, LOGS = ChainForm(2, 2, 2, 1), ExtentForm(2, 2, 2, 1), LogForm(2, 2, 2)
JOURNALS, ROOTS, STRIPES = JournalForm(2), RootForm(3, 2), StripeForm(3)
CASE = "cell a 3\nfirst a 0\ndeed up\nwhen a 0\nset a 1\nimage\nat a 1\nask x\nor\nat a 0\n"

# For each function, the arguments of one call or of several ones.
CALLS = {
    "check_disk": [(MACHINE, (1,)), (MACHINE, (3,))],
    "check_sketch": [(MACHINE, (1,)), (MACHINE, (0,))],
    "can_do": [(MACHINE, (0,), 0), (MACHINE, (0,), 5)],
    "after": [(MACHINE, (0,), 0), (MACHINE, (0,), 1)],
    "moments": [(MACHINE, (0,), [0, 1]), (MACHINE, (0,), [0, 0])],
    "format_machine": [(MACHINE,)],
    "parse_machine": [("cell a 2\ndeed go\n",), ("cell a 2\n\n",)],
    "contains": [((1, 2), (0, 1))],
    "meet": [((1, 3), (3, 2)), ((1,), (2,))],
    "included": [((1, 3), (3, 3))],
    "without": [((7, 3), [(3, 1), (4, 1)])],
    "has_piece": [([(1, 2), (2, 2)], (1, 1))],
    "count_disks": [((7, 3),)],
    "least_disk": [((6, 2),)],
    "all_disks": [((6, 3),), ((65535,) * 4,)],
    "before": [(MACHINE, (4,), 1), (MACHINE, (4,), 0), (MACHINE, (4,), 2)],
    "tell": [(MACHINE, (4,), [(2,)]), (MACHINE, (6,), [(4,)]), (MACHINE, (6,), [(8,)])],
    "judge_paper": [(MACHINE, (4,), [(2,)], PAPER), (MACHINE, (8,), [], PAPER)],
    "judge_history": [(MACHINE, (4,), [], (0,), [0, 1])],
    "tell_order": [(MACHINE, (4,), [(2,)], [(4,)]), (MACHINE, (4,), [(4,)], [(2,)])],
    "judge_order": [(MACHINE, (4,), [(2,)], [(4,)], ORDER_PAPER)],
    "judge_moment": [(MACHINE, (4,), [(4,)], [(2,)], (0,), [0, 1], 1)],
    "told_at_end": [(MACHINE, (4,), [(4,), (2,)])],
    "explanation": [(MACHINE, (4,)), (SWAPPING, (1, 1))],
    "count_histories": [(MACHINE, (6,), 2)],
    "core": [(SWAPPING, (1, 1)), (SWAPPING, (1, 2))],
    "told_readings": [(MACHINE, (4,), [0]), (SWAPPING, (1, 1), [0, 1]), (SWAPPING, (1, 1), [1, 0])],
    "chain_machine": [(CHAINS,)],
    "chain_files": [(CHAINS, (1, 0, 1, 0, 1, 0))],
    "chain_write": [(CHAINS, (0,) * 6, 1, (1,)), (CHAINS, (0,) * 6, 2, (1,))],
    "chain_overwrite": [(CHAINS, (1, 0, 1, 0, 1, 0), 0, (0,)), (CHAINS, (0,) * 6, 0, (0,))],
    "chain_delete": [(CHAINS, (1, 0, 1, 0, 1, 0), 0), (CHAINS, (0,) * 6, 0)],
    "chain_piece": [(CHAINS, 1, (1,))],
    "extent_machine": [(EXTENTS,)],
    "extent_files": [(EXTENTS, (1, 0, 1, 0, 1, 0))],
    "extent_write": [(EXTENTS, (0,) * 6, 1, (1,)), (EXTENTS, (0,) * 6, 2, (1,))],
    "extent_overwrite": [(EXTENTS, (1, 0, 1, 0, 1, 0), 0, (0,)), (EXTENTS, (0,) * 6, 0, (0,))],
    "extent_delete": [(EXTENTS, (1, 0, 1, 0, 1, 0), 0), (EXTENTS, (0,) * 6, 0)],
    "extent_piece": [(EXTENTS, 1, (1,))],
    "log_machine": [(LOGS,)],
    "log_files": [(LOGS, (1, 2, 0))],
    "log_put": [(LOGS, (1, 2, 0), 1, 1), (LOGS, (1, 2, 0), 2, 1)],
    "log_remove": [(LOGS, (1, 2, 0), 1)],
    "log_piece": [(LOGS, 1, 1)],
    "log_record": [(LOGS, 1, 1)],
    "journal_machine": [(JOURNALS,)],
    "journal_log": [(JOURNALS, (0,) * 9, 1, 1)],
    "journal_commit": [(JOURNALS, (0, 0, 1, 1, 1, 1, 0, 0, 0)), (JOURNALS, (0,) * 9)],
    "journal_apply": [(JOURNALS, (0, 0, 1, 1, 1, 1, 1, 0, 0), 1)],
    "journal_done": [(JOURNALS, (0, 0, 1, 1, 1, 1, 1, 1, 1))],
    "journal_crash": [(JOURNALS, (0, 0, 1, 1, 1, 1, 1, 1, 0))],
    "journal_recovered": [(JOURNALS, (0, 0, 1, 1, 1, 1, 1, 1, 0))],
    "journal_piece": [(JOURNALS, 0, 1)],
    "root_machine": [(ROOTS,)],
    "root_value": [(ROOTS, (1, 0, 0, 1, 1, 0, 0))],
    "root_update": [(ROOTS, (1, 0, 0, 1, 1, 0, 0), 1), (ROOTS, (1, 0, 0, 1, 1, 0, 0), 2)],
    "root_piece": [(ROOTS, 1)],
    "possible": [(MACHINE, (4,), [(2,)])],
    "judgement": [(MACHINE, (4,), [(2,)])],
    "report": [(MACHINE, (4,), [("a", [(2,)]), ("b", [])]), (SWAPPING, (1, 1), [("a", [])])],
    "side_by_side": [(MACHINE, SWAPPING)],
    "widened": [(MACHINE, SWAPPING, (2,))],
    "format_paper": [(PAPER,)],
    "parse_paper": [(MACHINE, "sketch 4\ncover 0\nrow 0 1 0\n"), (MACHINE, "cover")],
    "lacking": [(MACHINE, [1, 1]), (MACHINE, [2])],
    "tell_deeds": [(MACHINE, (4,), [1, 1]), (MACHINE, (2,), [1])],
    "told_deeds": [(MACHINE, (4,)), (SWAPPING, (1, 1))],
    "last_deeds": [(MACHINE, (6,))],
    "is_fresh": [(MACHINE, (6,))],
    "tell_within": [(MACHINE, (6,), [(4,)], 1), (MACHINE, (6,), [(4,)], 0)],
    "tell_between": [(MACHINE, (1,), (4,), [(2,)]), (MACHINE, (2,), (4,), [(1,)])],
    "judge_between": [(MACHINE, (1,), (4,), [(2,)], BETWEEN_PAPER)],
    "judge_passage": [(MACHINE, (2,), (4,), [(1,)], (0,), [0, 1], 1)],
    "deciding_cells": [(MACHINE, (6,), [(4,)])],
    "inside": [(SWAPPING, SWAPPING, [1, 0], ()), (SWAPPING, SWAPPING, [1, 1], ())],
    "inner_sketch": [(SWAPPING, SWAPPING, [1, 0], (1, 2))],
    "stripe_machine": [(STRIPES,)],
    "stripe_begin": [(STRIPES, (0, 0, 0, 0), 1, 2), (STRIPES, (0, 0, 0, 1), 1, 2)],
    "stripe_end": [(STRIPES, (1, 1, 0, 1))],
    "stripe_rebuild": [(STRIPES, (1, 1, 0, 0), 1)],
    "format_sketch": [(SWAPPING, (1, 3))],
    "format_case": [(SWAPPING, (1, 3), [("a", [(1, 2)]), ("b", [])])],
    "parse_case": [(CASE,), (CASE[:-1],)],
    "answer_case": [(CASE,)],
}


def headings():
    """The rows of the names of each module, by its name."""
    rows = {}
    for line in INTERFACE.strip().split("\n"):
        if line.startswith(" "):
            rows[module].append(line.strip())
        else:
            module = line
            rows[module] = []
    return rows


def functions():
    """The pairs of a name and a function, for all functions of the interface."""
    for module, rows in headings().items():
        for row in rows:
            name = row.partition("(")[0]
            found = getattr(importlib.import_module("raisedwreck." + module), name)
            if not inspect.isclass(found):
                yield name, found


def shown(value):
    """A value with all that belongs to it, as lists, tuples and dicts that can be compared."""
    if isinstance(value, (list, tuple)):
        return [isinstance(value, list)] + [shown(item) for item in value]
    if hasattr(value, "__dict__"):
        return [value.__class__.__name__, {name: shown(item) for name, item in vars(value).items()}]
    return value


def outcome(function, arguments):
    """What a function returns, or the error that it raises."""
    try:
        return function(*arguments)
    except WreckError as error:
        return error


class Names(unittest.TestCase):
    def test_each_name_is_defined_in_its_file_with_its_arguments(self):
        for module, rows in headings().items():
            with open(os.path.join(FOLDER, module + ".py"), encoding="utf-8") as file:
                defined = [node.name for node in ast.parse(file.read()).body
                           if isinstance(node, (ast.FunctionDef, ast.ClassDef))]
            for row in rows:
                with self.subTest(row):
                    name = row.partition("(")[0]
                    self.assertEqual(defined.count(name), 1)
                    found = getattr(importlib.import_module("raisedwreck." + module), name)
                    self.assertEqual(name + str(inspect.signature(found)), row)

    def test_a_machine_has_its_property_and_its_methods(self):
        self.assertIsInstance(vars(Machine)["full"], property)
        for name in ("cell", "deed"):
            self.assertEqual(str(inspect.signature(vars(Machine)[name])), "(self, name)")


class Calls(unittest.TestCase):
    """Points 2 and 4."""

    def test_there_is_a_call_for_each_function(self):
        self.assertEqual(sorted(name for name, _ in functions()), sorted(CALLS))

    def test_no_call_modifies_what_it_is_passed_and_two_calls_agree(self):
        for name, function in functions():
            for arguments in CALLS[name]:
                with self.subTest(name, arguments=arguments):
                    kept = copy.deepcopy(arguments)
                    one, other = outcome(function, arguments), outcome(function, arguments)
                    self.assertEqual(shown(arguments), shown(kept))
                    self.assertEqual(shown(one), shown(other))
                    self.assertEqual(shown(outcome(function, kept)), shown(one))

    def test_each_returned_list_is_a_new_one(self):
        lists = 0
        for name, function in functions():
            for arguments in CALLS[name]:
                found = outcome(function, arguments)
                if isinstance(found, list):
                    lists += 1
                    kept = copy.deepcopy(found)
                    found.append(None)
                    with self.subTest(name, arguments=arguments):
                        self.assertEqual(outcome(function, arguments), kept)
        self.assertGreater(lists, 12)


if __name__ == "__main__":
    unittest.main()
