"""What the tests of the families of file systems have in common."""

from raisedwreck.errors import InvalidForm, WreckError
from raisedwreck.judging import judge_history, judge_paper
from raisedwreck.machines import Machine
from raisedwreck.telling import tell
from tests import samples


def digits(values):
    return "".join(map(str, values))


def deed_of(names, name, guard, changes):
    """A deed, from the values that the guard allows and the values that are set, by the names of the cells."""
    when = sorted((names.index(cell), sum(1 << value for value in values)) for cell, values in guard.items())
    then = sorted((names.index(cell), ("set", value)) for cell, value in changes.items())
    return (name, tuple(when), tuple(then))


def sketch_of(machine, masks):
    """The sketch that has the values of some cells, by their names, and all values in the other cells."""
    return tuple(sum(1 << value for value in masks.get(name, range(size))) for name, size in machine.cells)


def check_forms(test, make, rows, is_right):
    """Each of the rows of numbers makes a form exactly if it is right; otherwise it is refused. Return the forms."""
    forms = []
    for row in rows:
        with test.subTest(row):
            if is_right(*row):
                forms.append(make(*row))
            else:
                with test.assertRaises(InvalidForm):
                    make(*row)
    return forms


def check_machine(test, machine, cells, deeds, first):
    """A machine has these cells and deeds, in this order, and this first sketch."""
    test.assertIsInstance(machine, Machine)
    test.assertEqual(machine.cells, tuple(cells))
    test.assertEqual([deed[0] for deed in machine.deeds], [deed[0] for deed in deeds])
    for found, expected in zip(machine.deeds, deeds):
        test.assertEqual(found, expected)
    test.assertEqual(machine.first, tuple(first))


def result_of(function, *arguments, **more):
    """What a function returns, or the class of the error that it raises."""
    try:
        return function(*arguments, **more)
    except WreckError as error:
        return error.__class__


def disks_after(machine, disk, chosen):
    """The disks after all deeds that can be done and whose names are chosen."""
    found = [samples.done(machine, disk, number) for number, deed in enumerate(machine.deeds) if chosen(deed[0])]
    return [new for new in found if new is not None]


def check_telling(test, machine, pieces, dice, tries):
    """Compare tell with a walk over all disks, for images with unreadable cells of disks that can be reached."""
    reached = sorted(samples.reached(machine))
    answers = set()
    for _ in range(tries):
        disk = dice.choice(reached)
        image = tuple(most if dice.random() < 0.4 else 1 << value for value, most in zip(disk, machine.full))
        # Pieces that the disk has are told more often.
        piece = dice.choice([piece for piece in pieces if samples.is_in_some(disk, piece)] or pieces)
        answer = tell(machine, image, piece)
        least = samples.least_deeds(machine, image, piece)
        test.assertIs(answer.told, least is None)
        if answer.told:
            test.assertIs(judge_paper(machine, image, piece, answer.paper), True)
        else:
            test.assertEqual(len(answer.deeds), least)
            test.assertIs(judge_history(machine, image, piece, answer.disk, answer.deeds), True)
        answers.add(answer.told)
    test.assertEqual(answers, {True, False})
