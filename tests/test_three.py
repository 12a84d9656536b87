"""Three steps commuted to the other way round: three."""

import unittest

from asking import ask, last, row_on

TREE = [2, 0, 8, 1, 2, 3, 4, 5, 6, 7, 8, 4, 0]

# Three steps, and what comes out of them, the same in both ways.
COMMUTING = [
    ([[2, 9], [3, 4], [4, 0, 1]], [[4, 0, 1], [3, 4], [2, 9]]),
    ([[1, 0, 1, 2], [1, 0, 3, 4], [1, 0, 5, 6]], [[1, 0, 5, 6], [1, 0, 3, 4], [1, 0, 1, 2]]),
    # Hunks of one file in each order, all of unlike lengths.
    ([[0, 0, 0, 1, 1, 2, 9, 9], [0, 0, 4, 1, 4, 0], [0, 0, 5, 0, 3, 7, 7, 7]],
     [[0, 0, 5, 0, 3, 7, 7, 7], [0, 0, 3, 1, 4, 0], [0, 0, 0, 1, 1, 2, 9, 9]]),
    ([[0, 0, 6, 2, 7, 8, 1, 9], [0, 0, 3, 1, 4, 3, 7, 7, 7], [0, 0, 0, 2, 1, 2, 0]],
     [[0, 0, 0, 2, 1, 2, 0], [0, 0, 1, 1, 4, 3, 7, 7, 7], [0, 0, 6, 2, 7, 8, 1, 9]]),
    ([[0, 0, 3, 1, 4, 3, 7, 7, 7], [0, 0, 8, 1, 7, 0], [0, 0, 0, 2, 1, 2, 1, 9]],
     [[0, 0, 0, 2, 1, 2, 1, 9], [0, 0, 5, 1, 7, 0], [0, 0, 2, 1, 4, 3, 7, 7, 7]]),
    # A hunk, a swap and a move of one file, in each order.
    ([[0, 0, 0, 1, 1, 1, 2], [1, 0, 2, 3], [4, 0, 5]], [[4, 0, 5], [1, 5, 2, 3], [0, 5, 0, 1, 1, 1, 3]]),
    ([[0, 0, 0, 1, 1, 1, 2], [4, 0, 5], [1, 5, 2, 3]], [[1, 0, 2, 3], [4, 0, 5], [0, 5, 0, 1, 1, 1, 3]]),
    ([[1, 0, 2, 3], [0, 0, 0, 1, 1, 1, 2], [4, 0, 5]], [[4, 0, 5], [0, 5, 0, 1, 1, 1, 3], [1, 5, 2, 3]]),
    ([[1, 0, 2, 3], [4, 0, 5], [0, 5, 0, 1, 1, 1, 2]], [[0, 0, 0, 1, 1, 1, 3], [4, 0, 5], [1, 5, 2, 3]]),
    ([[4, 0, 5], [0, 5, 0, 1, 1, 1, 2], [1, 5, 2, 3]], [[1, 0, 2, 3], [0, 0, 0, 1, 1, 1, 3], [4, 0, 5]]),
    ([[4, 0, 5], [1, 5, 2, 3], [0, 5, 0, 1, 1, 1, 2]], [[0, 0, 0, 1, 1, 1, 3], [1, 0, 2, 3], [4, 0, 5]]),
]

# Three steps of which one pair or more doesn't commute.
NOT_COMMUTING = [
    # The first and the second one alone.
    [[2, 9], [3, 9], [3, 4]],
    [[1, 0, 1, 2], [1, 0, 2, 3], [1, 0, 4, 5]],
    # The first and the third one alone.
    [[2, 9], [3, 4], [3, 9]],
    [[1, 0, 1, 2], [1, 0, 3, 4], [1, 0, 2, 5]],
    [[0, 0, 0, 1, 1, 1, 9], [4, 0, 1], [0, 1, 0, 1, 9, 0]],
    # The second and the third one alone.
    [[3, 4], [2, 9], [3, 9]],
    [[1, 0, 1, 2], [1, 0, 3, 4], [1, 0, 4, 5]],
    [[1, 0, 50, 60], [0, 0, 0, 1, 1, 0], [0, 0, 0, 1, 2, 0]],
    # Two pairs, and all of them.
    [[1, 0, 1, 2], [1, 0, 2, 3], [1, 0, 3, 4]],
    [[2, 9], [3, 9], [2, 9]],
]


class ThreeTest(unittest.TestCase):
    def test_both_ways_come_out(self):
        for steps, then in COMMUTING:
            with self.subTest(steps=steps):
                calls = row_on(TREE, *steps)
                tree = last(*calls, ("outcome",))
                found = ask(*calls, ("three", 0), ("shown",), ("outcome",))[4:]
                self.assertEqual(found, [([1] + sum(then, [])) * 2, [3] + sum(steps, []), tree])
                self.assertEqual(last(*row_on(TREE, *then), ("outcome",)), tree)

    def test_neither_way_comes_out(self):
        for steps in NOT_COMMUTING:
            with self.subTest(steps=steps):
                calls = row_on(TREE, *steps)
                tree = last(*calls, ("outcome",))
                found = ask(*calls, ("three", 0), ("shown",), ("outcome",))[4:]
                self.assertEqual(found, [[0, 0], [3] + sum(steps, []), tree])

    def test_the_three_steps_from_the_place_on(self):
        steps = [[2, 9], [0, 0, 0, 1, 1, 0], [0, 0, 2, 1, 4, 0], [4, 0, 1], [3, 9]]
        found = ask(*row_on(TREE, *steps), ("three", 0), ("three", 1), ("three", 2))[6:]
        self.assertEqual(found, [
            [1, 0, 0, 3, 1, 4, 0, 0, 0, 0, 1, 1, 0, 2, 9] * 2,
            [1, 4, 0, 1, 0, 1, 3, 1, 4, 0, 0, 1, 0, 1, 1, 0] * 2,
            [1, 3, 9, 4, 0, 1, 0, 1, 2, 1, 4, 0] * 2])

    def test_the_last_three_of_a_full_row(self):
        calls = row_on(TREE, *[[2, 9], [3, 9]] * 6, [2, 9], [2, 8], [2, 7], [2, 6])
        found = ask(*calls, ("three", 13), ("three", 14), ("three", 12), ("three", 11))[17:]
        self.assertEqual(found, [[1, 2, 6, 2, 7, 2, 8] * 2, [-2], [1, 2, 7, 2, 8, 2, 9] * 2, [0, 0]])
