"""Point 3: commute and why, where there are two steps."""

import unittest

from asking import ask, last, row_on

TREE = [2, 0, 8, 1, 2, 3, 4, 5, 6, 7, 8, 4, 0]

# Two steps that commute, and what the second and the first one become.
COMMUTING = [
    # No name in common.
    ([0, 0, 0, 1, 1, 0], [0, 4, 0, 0, 1, 1], [0, 4, 0, 0, 1, 1], [0, 0, 0, 1, 1, 0]),
    ([1, 0, 1, 2], [1, 4, 1, 2], [1, 4, 1, 2], [1, 0, 1, 2]),
    ([0, 0, 0, 1, 1, 0], [1, 4, 1, 2], [1, 4, 1, 2], [0, 0, 0, 1, 1, 0]),
    ([1, 4, 1, 2], [0, 0, 0, 1, 1, 0], [0, 0, 0, 1, 1, 0], [1, 4, 1, 2]),
    ([2, 1], [2, 2], [2, 2], [2, 1]),
    ([2, 1], [3, 4], [3, 4], [2, 1]),
    ([3, 4], [2, 1], [2, 1], [3, 4]),
    ([2, 1], [1, 0, 1, 2], [1, 0, 1, 2], [2, 1]),
    ([0, 0, 0, 1, 1, 0], [3, 4], [3, 4], [0, 0, 0, 1, 1, 0]),
    ([4, 0, 1], [4, 4, 5], [4, 4, 5], [4, 0, 1]),
    ([4, 0, 1], [2, 2], [2, 2], [4, 0, 1]),
    ([3, 4], [4, 0, 1], [4, 0, 1], [3, 4]),
    ([4, 0, 1], [0, 4, 0, 0, 1, 1], [0, 4, 0, 0, 1, 1], [4, 0, 1]),
    ([1, 4, 1, 2], [4, 0, 1], [4, 0, 1], [1, 4, 1, 2]),
    # Hunks of one file, the second one above the first: one token between them, or more.
    ([0, 0, 0, 1, 1, 0], [0, 0, 1, 1, 3, 0], [0, 0, 2, 1, 3, 0], [0, 0, 0, 1, 1, 0]),
    ([0, 0, 0, 1, 1, 2, 9, 9], [0, 0, 3, 1, 3, 0], [0, 0, 2, 1, 3, 0], [0, 0, 0, 1, 1, 2, 9, 9]),
    ([0, 0, 1, 0, 3, 9, 9, 9], [0, 0, 5, 0, 1, 7], [0, 0, 2, 0, 1, 7], [0, 0, 1, 0, 3, 9, 9, 9]),
    ([0, 0, 1, 3, 2, 3, 4, 1, 9], [0, 0, 6, 0, 1, 7], [0, 0, 8, 0, 1, 7], [0, 0, 1, 3, 2, 3, 4, 1, 9]),
    ([0, 0, 2, 1, 3, 1, 9], [0, 0, 4, 1, 5, 0], [0, 0, 4, 1, 5, 0], [0, 0, 2, 1, 3, 1, 9]),
    # Hunks of one file, the first one above the second.
    ([0, 0, 2, 1, 3, 0], [0, 0, 0, 1, 1, 0], [0, 0, 0, 1, 1, 0], [0, 0, 1, 1, 3, 0]),
    ([0, 0, 2, 1, 3, 1, 9], [0, 0, 0, 1, 1, 3, 7, 7, 7], [0, 0, 0, 1, 1, 3, 7, 7, 7], [0, 0, 4, 1, 3, 1, 9]),
    ([0, 0, 1, 0, 1, 9], [0, 0, 0, 0, 2, 7, 7], [0, 0, 0, 0, 2, 7, 7], [0, 0, 3, 0, 1, 9]),
    ([0, 0, 8, 0, 1, 9], [0, 0, 2, 3, 3, 4, 5, 0], [0, 0, 2, 3, 3, 4, 5, 0], [0, 0, 5, 0, 1, 9]),
    # A hunk and a swap of its file.
    ([0, 0, 0, 2, 1, 2, 3, 2, 9, 1], [1, 0, 1, 9], [1, 0, 1, 9], [0, 0, 0, 2, 9, 2, 3, 2, 1, 9]),
    ([0, 0, 0, 1, 1, 1, 2], [1, 0, 50, 60], [1, 0, 50, 60], [0, 0, 0, 1, 1, 1, 2]),
    ([1, 0, 1, 9], [0, 0, 0, 2, 9, 2, 2, 1, 9], [0, 0, 0, 2, 1, 2, 2, 9, 1], [1, 0, 1, 9]),
    ([1, 0, 9, 1], [0, 0, 0, 2, 9, 2, 1, 5], [0, 0, 0, 2, 1, 2, 1, 5], [1, 0, 9, 1]),
    # Swaps of one file.
    ([1, 0, 1, 2], [1, 0, 3, 4], [1, 0, 3, 4], [1, 0, 1, 2]),
    ([1, 0, 4, 3], [1, 0, 2, 1], [1, 0, 2, 1], [1, 0, 4, 3]),
    # A move, and a step inside its file.
    ([4, 0, 1], [0, 1, 2, 1, 3, 1, 9], [0, 0, 2, 1, 3, 1, 9], [4, 0, 1]),
    ([4, 0, 1], [1, 1, 5, 6], [1, 0, 5, 6], [4, 0, 1]),
    ([0, 0, 2, 1, 3, 1, 9], [4, 0, 1], [4, 0, 1], [0, 1, 2, 1, 3, 1, 9]),
    ([1, 0, 5, 6], [4, 0, 1], [4, 0, 1], [1, 1, 5, 6]),
]

# Two steps that don't commute, and why not.
NOT_COMMUTING = [
    # Hunks of one file with no token between them, the second one above the first.
    ([0, 0, 0, 1, 1, 0], [0, 0, 0, 1, 2, 0], 1),
    ([0, 0, 0, 1, 1, 2, 9, 9], [0, 0, 2, 1, 2, 0], 1),
    ([0, 0, 0, 1, 1, 2, 9, 9], [0, 0, 1, 1, 9, 0], 1),
    ([0, 0, 1, 0, 1, 9], [0, 0, 2, 0, 1, 7], 1),
    # Hunks of one file with no token between them, the first one above the second.
    ([0, 0, 2, 1, 3, 0], [0, 0, 1, 1, 2, 0], 1),
    ([0, 0, 2, 1, 3, 0], [0, 0, 0, 2, 1, 2, 0], 1),
    ([0, 0, 2, 1, 3, 0], [0, 0, 0, 3, 1, 2, 4, 0], 1),
    ([0, 0, 2, 0, 1, 9], [0, 0, 2, 0, 1, 7], 1),
    ([0, 0, 2, 0, 1, 9], [0, 0, 0, 4, 1, 2, 9, 3, 0], 1),
    # Swaps of one file with one token in common, or both.
    ([1, 0, 1, 2], [1, 0, 1, 3], 2),
    ([1, 0, 1, 2], [1, 0, 3, 1], 2),
    ([1, 0, 1, 2], [1, 0, 2, 3], 2),
    ([1, 0, 1, 2], [1, 0, 3, 2], 2),
    ([1, 0, 1, 2], [1, 0, 1, 2], 2),
    ([1, 0, 1, 2], [1, 0, 2, 1], 2),
    # All others with a name in common.
    ([2, 1], [3, 1], 3),
    ([3, 4], [2, 4], 3),
    ([2, 1], [0, 1, 0, 0, 1, 1], 3),
    ([2, 1], [1, 1, 1, 2], 3),
    ([2, 1], [4, 1, 2], 3),
    ([0, 0, 0, 8, 1, 2, 3, 4, 5, 6, 7, 8, 0], [3, 0], 3),
    ([1, 4, 1, 2], [3, 4], 3),
    ([3, 4], [4, 0, 4], 3),
    ([4, 0, 1], [2, 0], 3),
    ([4, 4, 1], [3, 1], 3),
    ([4, 0, 1], [4, 1, 2], 3),
    ([4, 0, 1], [4, 1, 0], 3),
    ([4, 0, 1], [4, 4, 0], 3),
]

class CommuteTest(unittest.TestCase):
    def test_steps_that_commute(self):
        for first, second, ahead, behind in COMMUTING:
            with self.subTest(first=first, second=second):
                calls = row_on(TREE, first, second)
                tree = last(*calls, ("outcome",))
                found = ask(*calls, ("why", 0), ("commute", 0), ("shown",), ("outcome",))[3:]
                self.assertEqual(found, [[0], ahead + behind, [2] + ahead + behind, tree])

    def test_commuted_twice_they_are_as_they_were(self):
        for first, second, _, _ in COMMUTING:
            with self.subTest(first=first, second=second):
                found = ask(*row_on(TREE, first, second), ("commute", 0), ("commute", 0), ("shown",))[4:]
                self.assertEqual(found, [first + second, [2] + first + second])

    def test_what_comes_of_commuting_can_be_told_as_steps(self):
        for first, second, ahead, behind in COMMUTING:
            with self.subTest(first=first, second=second):
                tree = last(*row_on(TREE, first, second), ("outcome",))
                self.assertEqual(last(*row_on(TREE, ahead, behind), ("outcome",)), tree)

    def test_steps_that_do_not_commute(self):
        for first, second, reason in NOT_COMMUTING:
            with self.subTest(first=first, second=second):
                calls = row_on(TREE, first, second)
                tree = last(*calls, ("outcome",))
                found = ask(*calls, ("why", 0), ("commute", 0), ("shown",), ("outcome",))[3:]
                self.assertEqual(found, [[reason], [-7], [2] + first + second, tree])

    def test_only_the_step_and_the_next_one_change(self):
        steps = [[2, 9], [0, 0, 0, 1, 1, 0], [0, 0, 4, 1, 6, 0], [3, 4]]
        found = ask(*row_on(TREE, *steps), ("commute", 1), ("shown",))[5:]
        self.assertEqual(found, [
            [0, 0, 5, 1, 6, 0, 0, 0, 0, 1, 1, 0],
            [4, 2, 9, 0, 0, 5, 1, 6, 0, 0, 0, 0, 1, 1, 0, 3, 4]])

    def test_the_last_two_steps(self):
        found = ask(*row_on(TREE, [2, 9], [3, 9], [3, 4]), ("why", 1), ("commute", 1), ("why", 0), ("shown",))[4:]
        self.assertEqual(found, [[0], [3, 4, 3, 9], [0], [3, 2, 9, 3, 4, 3, 9]])

    def test_why_changes_nothing(self):
        found = ask(*row_on(TREE, [2, 9], [4, 0, 1]), ("why", 0), ("shown",), ("why", 0))[3:]
        self.assertEqual(found, [[0], [2, 2, 9, 4, 0, 1], [0]])

    def test_the_row_goes_on_from_the_commuted_steps(self):
        calls = row_on(TREE, [0, 0, 0, 1, 1, 0], [4, 0, 1]) + [("commute", 0), ("step", [0, 1, 4, 1, 6, 0])]
        found = ask(*calls, ("commute", 1), ("commute", 0), ("shown",), ("outcome",))[4:]
        self.assertEqual(found, [
            [2],
            [0, 1, 5, 1, 6, 0, 0, 1, 0, 1, 1, 0],
            [0, 0, 5, 1, 6, 0, 4, 0, 1],
            [3, 0, 0, 5, 1, 6, 0, 4, 0, 1, 0, 1, 0, 1, 1, 0],
            [2, 1, 6, 2, 3, 4, 5, 7, 8, 4, 0]])
