"""Point 19 asked again and again: raisedwreck/reaching.py, a part of reports, doings and between."""

import random
import unittest

from raisedwreck.reaching import Reach
from tests import samples


def goals_of(reach):
    """The disks behind the first goal, each of which is a sketch of one disk."""
    return [disk for goal in reach.goals[1:] for disk in samples.disks_in(goal)]


class Reaching(unittest.TestCase):
    def test_what_was_found_is_kept(self):
        reach = Reach(samples.counter(3), [])
        self.assertEqual((reach.goals, reach.barren.sketches), ([(1, 1, 1)], []))
        self.assertIs(reach.reaches([(1, 2, 1)]), True)
        self.assertEqual(reach.goals, [(1, 1, 1), (2, 1, 1), (1, 2, 1)])
        self.assertIs(reach.reaches([(1, 2, 1)]), True)
        self.assertEqual(len(reach.goals), 3)
        self.assertIs(reach.reaches([(1, 1, 2)]), True)
        self.assertEqual(reach.goals[3:], [(2, 2, 1), (1, 1, 2)])
        self.assertEqual(reach.barren.sketches, [])

    def test_what_is_barren_is_kept(self):
        reach = Reach(samples.three_steps(), [(2,)])
        self.assertIs(reach.reaches([(4,)]), False)
        self.assertEqual(reach.barren.sketches, [(4,)])
        self.assertIs(reach.reaches([(1,)]), True)
        self.assertEqual((reach.goals, reach.barren.sketches), ([(1,)], [(4,)]))
        self.assertIs(reach.reaches([]), False)
        self.assertIs(reach.reaches([(4,), (1,)]), True)

    def test_many_questions_about_one_machine(self):
        dice = random.Random(19)
        counts = {True: 0, False: 0}
        for _ in range(150):
            machine = samples.random_machine(dice)
            _, piece = samples.random_question(dice, machine)
            reached = samples.reached(machine, piece)
            reach = Reach(machine, piece)
            for _ in range(8):
                parts = [part for _ in range(dice.randint(0, 2))
                         for part in samples.plain_without(samples.random_sketch(dice, machine.full, 0.3), piece)]
                found = reach.reaches(parts)
                self.assertIs(found, any(samples.is_in_some(disk, parts) for disk in reached))
                counts[found] += 1
                self.assertTrue(set(goals_of(reach)) <= reached)
                self.assertFalse(any(samples.is_in_some(disk, reach.barren.sketches) for disk in reached))
        self.assertGreater(min(counts.values()), 200)


if __name__ == "__main__":
    unittest.main()
