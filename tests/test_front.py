"""Point 4: front."""

import unittest

from asking import ask, row_on

TREE = [2, 0, 6, 1, 2, 3, 4, 5, 6, 4, 0]


class FrontTest(unittest.TestCase):
    def test_the_first_step_is_there_already(self):
        row = [2, 2, 9, 3, 9]
        found = ask(*row_on(TREE, [2, 9], [3, 9]), ("front", 0), ("shown",), ("outcome",))[3:]
        self.assertEqual(found, [[1, 2, 9], row, TREE])

    def test_the_only_step_is_there_already(self):
        self.assertEqual(ask(*row_on(TREE, [4, 0, 1]), ("front", 0), ("shown",))[2:], [[1, 4, 0, 1], [1, 4, 0, 1]])

    def test_it_comes_past_each_kind_of_step(self):
        steps = [[2, 9], [0, 0, 0, 1, 1, 2, 8, 8], [1, 0, 5, 7], [4, 0, 1], [3, 4], [0, 1, 5, 1, 7, 1, 3]]
        calls = row_on(TREE, *steps)
        found = ask(*calls, ("outcome",), ("front", 5), ("shown",), ("outcome",))[7:]
        self.assertEqual(found[0], [2, 1, 7, 8, 8, 2, 3, 4, 3, 6, 9, 0])
        self.assertEqual(found[1], [1, 0, 0, 4, 1, 5, 1, 3])
        self.assertEqual(found[2], [
            6, 0, 0, 4, 1, 5, 1, 3, 2, 9, 0, 0, 0, 1, 1, 2, 8, 8, 1, 0, 5, 7, 4, 0, 1, 3, 4])
        self.assertEqual(found[3], found[0])

    def test_those_it_came_past_are_as_they_are_then(self):
        steps = [[0, 0, 4, 1, 5, 0], [0, 0, 2, 1, 3, 1, 9], [0, 0, 0, 1, 1, 3, 7, 7, 7], [2, 9]]
        found = ask(*row_on(TREE, *steps), ("outcome",), ("front", 2), ("shown",), ("outcome",))[5:]
        self.assertEqual(found[0], [3, 0, 7, 7, 7, 7, 2, 9, 4, 6, 4, 0, 9, 0])
        self.assertEqual(found[1], [1, 0, 0, 0, 1, 1, 3, 7, 7, 7])
        self.assertEqual(found[2], [
            4, 0, 0, 0, 1, 1, 3, 7, 7, 7, 0, 0, 6, 1, 5, 0, 0, 0, 4, 1, 3, 1, 9, 2, 9])
        self.assertEqual(found[3], found[0])

    def test_a_move_comes_past_steps_inside_its_file(self):
        steps = [[0, 0, 0, 1, 1, 0], [1, 0, 2, 3], [4, 0, 1]]
        found = ask(*row_on(TREE, *steps), ("outcome",), ("front", 2), ("shown",), ("outcome",))[4:]
        self.assertEqual(found[1:3], [[1, 4, 0, 1], [3, 4, 0, 1, 0, 1, 0, 1, 1, 0, 1, 1, 2, 3]])
        self.assertEqual(found[3], found[0])

    def test_a_swap_comes_past_hunks(self):
        steps = [[0, 0, 0, 1, 1, 1, 2], [0, 0, 3, 1, 4, 0], [1, 0, 2, 4]]
        found = ask(*row_on(TREE, *steps), ("outcome",), ("front", 2), ("shown",), ("outcome",))[4:]
        self.assertEqual(found[1:3], [[1, 1, 0, 2, 4], [3, 1, 0, 2, 4, 0, 0, 0, 1, 1, 1, 4, 0, 0, 3, 1, 2, 0]])
        self.assertEqual(found[3], found[0])

    def test_it_comes_past_some_and_stops_and_nothing_is_changed(self):
        steps = [[2, 9], [0, 0, 0, 1, 1, 0], [4, 0, 1], [1, 1, 2, 3], [0, 1, 0, 1, 3, 0]]
        found = ask(*row_on(TREE, *steps), ("outcome",), ("shown",), ("front", 4), ("shown",), ("outcome",))[6:]
        self.assertEqual(found[2], [0, 2])
        self.assertEqual(found[3], found[1])
        self.assertEqual(found[4], found[0])

    def test_it_comes_past_none(self):
        found = ask(*row_on(TREE, [2, 8], [2, 9], [3, 9]), ("front", 2), ("shown",))[4:]
        self.assertEqual(found, [[0, 0], [3, 2, 8, 2, 9, 3, 9]])

    def test_it_stops_at_the_first_step_alone(self):
        found = ask(*row_on(TREE, [2, 9], [2, 8], [2, 7], [3, 9]), ("front", 3), ("shown",))[5:]
        self.assertEqual(found, [[0, 2], [4, 2, 9, 2, 8, 2, 7, 3, 9]])

    def test_it_stops_at_the_nearest_step_even_if_others_would_let_it_past(self):
        found = ask(*row_on(TREE, [2, 9], [1, 0, 1, 2], [1, 0, 2, 3]), ("front", 2), ("front", 1), ("shown",))[4:]
        self.assertEqual(found, [[0, 0], [1, 1, 0, 1, 2], [3, 1, 0, 1, 2, 2, 9, 1, 0, 2, 3]])

    def test_steps_behind_it_stay(self):
        found = ask(*row_on(TREE, [2, 9], [3, 4], [3, 9]), ("front", 1), ("shown",))[4:]
        self.assertEqual(found, [[1, 3, 4], [3, 3, 4, 2, 9, 3, 9]])

    def test_through_a_full_row(self):
        calls = row_on(TREE, *[[1, 0, 90, 91]] * 15, [4, 0, 1])
        found = ask(*calls, ("front", 15), ("shown",), ("front", 15), ("front", 1))[17:]
        self.assertEqual(found, [[1, 4, 0, 1], [16, 4, 0, 1] + [1, 1, 90, 91] * 15, [0, 0], [1, 1, 0, 90, 91]])
