"""Point 3: -2 of all calls with a place."""

import unittest

from asking import LARGEST, WITH_PLACE, ask, last, row_on

TREE = [2, 0, 8, 1, 2, 3, 4, 5, 6, 7, 8, 4, 0]

PLACES_OF_NO_STEP = (-1, -2, -3, -16, -LARGEST, 3, 4, 15, 16, LARGEST)

# How many steps must stand behind the one at the place; of all other calls none.
BEHIND = {"commute": 1, "why": 1, "three": 2}


class NoSuchStepTest(unittest.TestCase):
    def test_no_such_step(self):
        calls = row_on(TREE, [2, 9], [4, 0, 1], [3, 4])
        for name in WITH_PLACE:
            for place in PLACES_OF_NO_STEP:
                with self.subTest(name=name, place=place):
                    found = ask(*calls, (name, place), ("shown",), ("outcome",))[4:]
                    self.assertEqual(found, [
                        [-2], [3, 2, 9, 4, 0, 1, 3, 4], [2, 1, 8, 1, 2, 3, 4, 5, 6, 7, 8, 9, 0]])

    def test_an_empty_row_has_no_step(self):
        for name in WITH_PLACE:
            for place in (0,) + PLACES_OF_NO_STEP:
                with self.subTest(name=name, place=place):
                    self.assertEqual(ask(("tree", TREE), (name, place), ("shown",)), [[2], [-2], [0]])

    def test_too_few_steps_behind(self):
        for size in (1, 2, 3, 4, 16):
            steps = ([[2, 9], [3, 9]] * 8)[:size]
            for name, behind in BEHIND.items():
                for place in range(max(0, size - behind), size):
                    with self.subTest(name=name, size=size, place=place):
                        found = ask(*row_on(TREE, *steps), (name, place), ("shown",))[-2:]
                        self.assertEqual(found, [[-2], [size] + sum(steps, [])])

    def test_each_place_with_enough_steps_behind_is_taken(self):
        for size in (1, 2, 3, 4):
            steps = [[1, 0, 1, 2], [2, 9], [4, 4, 5], [1, 0, 3, 4]][:size]
            for name in WITH_PLACE:
                for place in range(size - BEHIND.get(name, 0)):
                    with self.subTest(name=name, size=size, place=place):
                        self.assertGreaterEqual(last(*row_on(TREE, *steps), (name, place))[0], 0)

    def test_no_next_step_is_looked_at_ahead_of_not_commuting(self):
        calls = row_on(TREE, [2, 9], [3, 9])
        self.assertEqual(ask(*calls, ("commute", 0), ("commute", 1), ("commute", -1))[3:], [[-7], [-2], [-2]])

    def test_a_step_left_out_is_no_step_from_then_on(self):
        calls = row_on(TREE, [2, 9], [4, 0, 1], [3, 4]) + [("without", 1)]
        for name in WITH_PLACE:
            with self.subTest(name=name):
                self.assertEqual(last(*calls, (name, 2)), [-2])
