"""Point 6: turn."""

import unittest

from asking import ask, last, row_on

TREE = [2, 0, 8, 1, 2, 3, 4, 5, 6, 7, 8, 4, 0]

# Each kind of step, and it turned round.
TURNED = [
    ([0, 0, 1, 1, 2, 2, 9, 7], [0, 0, 1, 2, 9, 7, 1, 2]),
    ([0, 0, 8, 0, 1, 9], [0, 0, 8, 1, 9, 0]),
    ([0, 0, 0, 8, 1, 2, 3, 4, 5, 6, 7, 8, 0], [0, 0, 0, 0, 8, 1, 2, 3, 4, 5, 6, 7, 8]),
    ([0, 0, 1, 1, 2, 1, 2], [0, 0, 1, 1, 2, 1, 2]),
    ([1, 0, 3, 9], [1, 0, 3, 9]),
    ([1, 0, 9, 3], [1, 0, 9, 3]),
    ([2, 9], [3, 9]),
    ([3, 4], [2, 4]),
    ([4, 0, 1], [4, 1, 0]),
]

ROW = [[2, 9], [0, 0, 0, 1, 1, 2, 9, 9], [1, 0, 2, 7], [4, 0, 1], [3, 4], [0, 9, 0, 0, 1, 5], [4, 9, 0]]
ROW_TURNED = [[4, 0, 9], [0, 9, 0, 1, 5, 0], [2, 4], [4, 1, 0], [1, 0, 2, 7], [0, 0, 0, 2, 9, 9, 1, 1], [3, 9]]
ROW_OUTCOME = [2, 0, 1, 5, 1, 9, 9, 9, 7, 3, 4, 5, 6, 2, 8]


class TurnTest(unittest.TestCase):
    def test_each_kind_of_step(self):
        for step, back in TURNED:
            with self.subTest(step=step):
                tree = last(*row_on(TREE, step), ("outcome",))
                found = ask(*row_on(TREE, step), ("turn",), ("shown",), ("outcome",))[2:]
                self.assertEqual(found, [tree, [1] + back, TREE])

    def test_a_row(self):
        found = ask(*row_on(TREE, *ROW), ("turn",), ("shown",), ("outcome",))[8:]
        self.assertEqual(found, [ROW_OUTCOME, [7] + sum(ROW_TURNED, []), TREE])

    def test_twice(self):
        found = ask(*row_on(TREE, *ROW), ("turn",), ("turn",), ("shown",), ("outcome",))[8:]
        self.assertEqual(found, [ROW_OUTCOME, TREE, [7] + sum(ROW, []), ROW_OUTCOME])

    def test_an_empty_row(self):
        for tree in ([0], TREE):
            with self.subTest(tree=tree):
                found = ask(("tree", tree), ("turn",), ("shown",), ("outcome",), ("turn",), ("outcome",))
                self.assertEqual(found, [[tree[0]], tree, [0], tree, tree, tree])

    def test_a_step_behind_a_turned_row(self):
        calls = row_on(TREE, [2, 9], [4, 0, 1]) + [("turn",)]
        found = ask(*calls, ("step", [2, 9]), ("step", [4, 0, 1]), ("step", [4, 0, 2]), ("shown",), ("outcome",))[4:]
        self.assertEqual(found, [
            [2], [3], [-4], [4, 4, 1, 0, 3, 9, 2, 9, 4, 0, 1], [3, 1, 8, 1, 2, 3, 4, 5, 6, 7, 8, 4, 0, 9, 0]])

    def test_turned_with_a_step_behind_it(self):
        calls = row_on(TREE, [0, 0, 0, 1, 1, 0]) + [("turn",), ("step", [2, 9]), ("turn",)]
        found = ask(*calls, ("shown",), ("outcome",))[2:]
        self.assertEqual(found, [
            [2, 0, 7, 2, 3, 4, 5, 6, 7, 8, 4, 0],
            [1],
            [3, 0, 8, 1, 2, 3, 4, 5, 6, 7, 8, 4, 0, 9, 0],
            [2, 3, 9, 0, 0, 0, 1, 1, 0],
            [2, 0, 7, 2, 3, 4, 5, 6, 7, 8, 4, 0]])

    def test_calls_on_a_turned_row(self):
        calls = row_on(TREE, [0, 0, 0, 1, 1, 3, 9, 9, 9], [0, 0, 6, 1, 5, 0], [4, 0, 1]) + [("turn",)]
        row = [3, 4, 1, 0, 0, 0, 6, 0, 1, 5, 0, 0, 0, 3, 9, 9, 9, 1, 1]
        found = ask(*calls, ("shown",), ("needs", 2), ("back", 0), ("front", 1), ("shown",), ("outcome",))[5:]
        self.assertEqual(found, [
            row,
            [0],
            [1, 4, 1, 0],
            [1, 0, 1, 0, 3, 9, 9, 9, 1, 1],
            [3, 0, 1, 0, 3, 9, 9, 9, 1, 1, 0, 1, 4, 0, 1, 5, 4, 1, 0],
            TREE])

    def test_a_full_row_stays_full(self):
        calls = row_on(TREE, *[[2, 9], [3, 9]] * 8)
        found = ask(*calls, ("turn",), ("step", [2, 9]), ("shown",))[17:]
        self.assertEqual(found, [TREE, [-6], [16] + [2, 9, 3, 9] * 8])

    def test_an_outcome_beyond_what_a_told_tree_has(self):
        names = [0, 1, 2, 3, 5, 6, 7, 8, 9]
        grown = [0, 4, 0, 0, 8] + [3] * 8
        calls = row_on([1, 4, 12] + [1] * 12, *[[2, name] for name in names], grown, grown)
        tree = [10] + [number for name in names[:4] for number in (name, 0)]
        tree += [4, 28] + [3] * 16 + [1] * 12 + [number for name in names[4:] for number in (name, 0)]
        found = ask(*calls, ("turn",), ("outcome",), ("turn",))[12:]
        self.assertEqual(found, [tree, [1, 4, 12] + [1] * 12, [1, 4, 12] + [1] * 12])

    def test_a_tree_told_anew_has_an_empty_row(self):
        found = ask(*row_on(TREE, *ROW), ("turn",), ("tree", [0]), ("shown",), ("turn",))[8:]
        self.assertEqual(found, [ROW_OUTCOME, [0], [0], [0]])
