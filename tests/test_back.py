"""Point 4: back and without."""

import unittest

from asking import ask, last, row_on

TREE = [2, 0, 6, 1, 2, 3, 4, 5, 6, 4, 0]

# Steps, a place, and the steps as they are when the one at the place has come to the end.
TO_THE_END = [
    # The last one already.
    ([[2, 9]], 0, [[2, 9]]),
    ([[2, 9], [3, 9]], 1, [[2, 9], [3, 9]]),
    # Past steps that stay as they are.
    ([[2, 9], [3, 4]], 0, [[3, 4], [2, 9]]),
    ([[2, 9], [3, 4], [4, 0, 1]], 0, [[3, 4], [4, 0, 1], [2, 9]]),
    ([[2, 9], [3, 9], [3, 4], [4, 0, 1]], 1, [[2, 9], [3, 4], [4, 0, 1], [3, 9]]),
    # A hunk past hunks above and below it.
    ([[0, 0, 2, 1, 3, 3, 7, 7, 7], [0, 0, 6, 1, 5, 0], [0, 0, 0, 1, 1, 2, 8, 8]], 0,
     [[0, 0, 4, 1, 5, 0], [0, 0, 0, 1, 1, 2, 8, 8], [0, 0, 3, 1, 3, 3, 7, 7, 7]]),
    ([[3, 4], [0, 0, 0, 2, 1, 2, 0], [0, 0, 1, 1, 4, 1, 9], [0, 0, 4, 0, 2, 6, 6]], 1,
     [[3, 4], [0, 0, 3, 1, 4, 1, 9], [0, 0, 6, 0, 2, 6, 6], [0, 0, 0, 2, 1, 2, 0]]),
    # A hunk past swaps and a move.
    ([[0, 0, 0, 1, 1, 1, 2], [1, 0, 2, 3], [1, 0, 3, 1], [4, 0, 5]], 0,
     [[1, 0, 2, 3], [1, 0, 3, 1], [4, 0, 5], [0, 5, 0, 1, 3, 1, 1]]),
    # A swap past hunks, a swap and a move.
    ([[1, 0, 1, 2], [0, 0, 0, 1, 2, 1, 9], [0, 0, 5, 1, 6, 1, 1], [1, 0, 3, 4], [4, 0, 5]], 0,
     [[0, 0, 0, 1, 1, 1, 9], [0, 0, 5, 1, 6, 1, 2], [1, 0, 3, 4], [4, 0, 5], [1, 5, 1, 2]]),
    # A move past steps inside its file, and past others.
    ([[4, 0, 1], [0, 1, 0, 1, 1, 0], [2, 9], [1, 1, 2, 3], [0, 9, 0, 0, 1, 5]], 0,
     [[0, 0, 0, 1, 1, 0], [2, 9], [1, 0, 2, 3], [0, 9, 0, 0, 1, 5], [4, 0, 1]]),
]

# Steps, a place, and how many the one at the place comes past.
STOPPED = [
    ([[2, 9], [3, 9]], 0, 0),
    ([[2, 9], [3, 9], [3, 4]], 0, 0),
    ([[2, 9], [3, 4], [3, 9]], 0, 1),
    ([[2, 9], [3, 4], [3, 9], [4, 0, 1], [4, 1, 0]], 0, 1),
    ([[3, 4], [2, 9], [4, 0, 1], [4, 1, 2], [3, 9]], 1, 2),
    ([[0, 0, 0, 1, 1, 0], [0, 0, 2, 1, 4, 0], [0, 0, 0, 0, 1, 9]], 0, 1),
    # It would touch the third one only as it is then.
    ([[0, 0, 0, 1, 1, 0], [4, 0, 5], [0, 5, 0, 1, 2, 0]], 0, 1),
    ([[0, 0, 3, 1, 4, 0], [0, 0, 0, 2, 1, 2, 0], [0, 0, 0, 1, 3, 0]], 0, 1),
    ([[1, 0, 1, 2], [1, 0, 3, 4], [0, 0, 0, 1, 2, 0], [1, 0, 1, 3]], 0, 2),
    ([[4, 0, 1], [1, 1, 3, 4], [3, 4], [2, 0]], 0, 2),
]


class BackTest(unittest.TestCase):
    def test_it_comes_to_the_end(self):
        for steps, place, then in TO_THE_END:
            with self.subTest(steps=steps, place=place):
                calls = row_on(TREE, *steps)
                tree = last(*calls, ("outcome",))
                found = ask(*calls, ("back", place), ("shown",), ("outcome",))[len(calls):]
                self.assertEqual(found, [[1] + then[-1], [len(steps)] + sum(then, []), tree])

    def test_it_stops_and_nothing_is_changed(self):
        for steps, place, past in STOPPED:
            with self.subTest(steps=steps, place=place):
                calls = row_on(TREE, *steps)
                tree = last(*calls, ("outcome",))
                found = ask(*calls, ("back", place), ("shown",), ("outcome",))[len(calls):]
                self.assertEqual(found, [[0, past], [len(steps)] + sum(steps, []), tree])

    def test_through_a_full_row(self):
        calls = row_on(TREE, [4, 0, 1], *[[1, 1, 90, 91]] * 15)
        found = ask(*calls, ("back", 0), ("shown",), ("back", 0), ("back", 14))[17:]
        self.assertEqual(found, [[1, 4, 0, 1], [16] + [1, 0, 90, 91] * 15 + [4, 0, 1], [0, 0], [1, 1, 1, 90, 91]])

    def test_front_leads_back(self):
        steps = [[0, 0, 2, 1, 3, 3, 7, 7, 7], [0, 0, 6, 1, 5, 0], [1, 0, 7, 2], [4, 0, 1]]
        found = ask(*row_on(TREE, *steps), ("back", 0), ("front", 3), ("shown",))[5:]
        self.assertEqual(found, [[1, 0, 1, 2, 1, 3, 3, 2, 2, 2], [1] + steps[0], [4] + sum(steps, [])])

    def test_the_row_goes_on_from_there(self):
        calls = row_on(TREE, [0, 0, 0, 1, 1, 0], [4, 0, 1]) + [("back", 0), ("step", [0, 1, 0, 1, 2, 0])]
        found = ask(*calls, ("why", 1), ("shown",))[3:]
        self.assertEqual(found, [
            [1, 0, 1, 0, 1, 1, 0], [2], [1], [3, 4, 0, 1, 0, 1, 0, 1, 1, 0, 0, 1, 0, 1, 2, 0]])


class WithoutTest(unittest.TestCase):
    def test_it_comes_to_the_end_and_is_left_out(self):
        for steps, place, then in TO_THE_END:
            with self.subTest(steps=steps, place=place):
                calls = row_on(TREE, *steps)
                # What comes of the row is what comes of the steps that are left, told as they are then.
                tree = last(*row_on(TREE, *then[:-1]), ("outcome",))
                found = ask(*calls, ("without", place), ("shown",), ("outcome",))[len(calls):]
                self.assertEqual(found, [[1, len(steps) - 1], [len(steps) - 1] + sum(then[:-1], []), tree])

    def test_it_stops_and_nothing_is_changed(self):
        for steps, place, past in STOPPED:
            with self.subTest(steps=steps, place=place):
                calls = row_on(TREE, *steps)
                tree = last(*calls, ("outcome",))
                found = ask(*calls, ("without", place), ("shown",), ("outcome",))[len(calls):]
                self.assertEqual(found, [[0, past], [len(steps)] + sum(steps, []), tree])

    def test_a_hunk_is_taken_out_as_if_it_had_never_been_there(self):
        calls = row_on(TREE, [0, 0, 0, 1, 1, 3, 7, 7, 7], [0, 0, 7, 1, 6, 0], [4, 0, 1])
        found = ask(*calls, ("without", 0), ("shown",), ("outcome",))[4:]
        self.assertEqual(found, [[1, 2], [2, 0, 0, 5, 1, 6, 0, 4, 0, 1], [2, 1, 5, 1, 2, 3, 4, 5, 4, 0]])

    def test_the_only_step_leaves_an_empty_row(self):
        found = ask(*row_on(TREE, [4, 0, 1]), ("without", 0), ("shown",), ("outcome",), ("without", 0))[2:]
        self.assertEqual(found, [[1, 0], [0], TREE, [-2]])

    def test_it_makes_room_in_a_full_row(self):
        calls = row_on(TREE, *[[2, 9], [3, 9]] * 8)
        found = ask(*calls, ("step", [3, 4]), ("without", 15), ("step", [3, 4]), ("step", [3, 9]), ("step", [2, 8]))
        self.assertEqual(found[17:], [[-6], [1, 15], [15], [-6], [-6]])

    def test_a_step_behind_it_fits_the_tree_without_it(self):
        calls = row_on(TREE, [2, 9], [4, 0, 1]) + [("without", 0), ("step", [3, 9]), ("step", [2, 9]), ("shown",)]
        self.assertEqual(ask(*calls)[3:], [[1, 1], [-4], [1], [2, 4, 0, 1, 2, 9]])
