"""Point 1: tree."""

import unittest

from asking import LARGEST, ask, last

WHOLE = [
    [0],
    [1, 0, 0],
    [1, 9, 0],
    [1, 5, 1, 0],
    [1, 5, 1, 99],
    [2, 0, 2, 7, 7, 9, 0],
    [1, 3, 12] + [4] * 12,
    [6, 0, 0, 1, 0, 2, 0, 3, 0, 4, 0, 5, 0],
    [6] + [number for name in (1, 3, 5, 7, 8, 9) for number in [name, 12] + list(range(88, 100))],
]

NOT_WHOLE = [
    [],
    [0, 0],
    [1],
    [1, 0],
    [1, 0, 1],
    [1, 0, 2, 5],
    [1, 0, 1, 5, 5],
    [1, 0, 0, 0],
    [2, 0, 0],
    [2, 0, 0, 1],
    [2, 0, 0, 1, 1],
    [2, 0, 0, 1, 0, 0],
    [2, 0, 0, 0, 0],
    [2, 0, 0, 0, 0, 1, 0],
    [3, 0, 0, 0, 0, 1, 0],
    [2, 1, 0, 0, 0],
    [3, 0, 0, 2, 0, 1, 0],
    [1, 10, 0],
    [1, -1, 0],
    [1, LARGEST, 0],
    [1, -LARGEST, 0],
    [1, 0, 1, 100],
    [1, 0, 1, -1],
    [1, 0, 3, 1, 2, 100],
    [1, 0, 1, LARGEST],
    [1, 0, 1, -LARGEST],
    [1, 0, 13] + [4] * 13,
    [1, 0, -1],
    [1, 0, LARGEST],
    [1, 0, -LARGEST],
    [2, 0, -1, 1, 0],
    [7, 0, 0, 1, 0, 2, 0, 3, 0, 4, 0, 5, 0, 6, 0],
    [-1],
    [-1, 0, 0],
    [LARGEST],
    [-LARGEST],
    [LARGEST] + [0] * 99,
    [0] * 100,
    [99] * 100,
]


class TreeTest(unittest.TestCase):
    def test_whole_trees_answer_how_many_files(self):
        for numbers in WHOLE:
            with self.subTest(numbers=numbers):
                self.assertEqual(ask(("tree", numbers), ("outcome",), ("shown",)), [[numbers[0]], numbers, [0]])

    def test_what_is_not_whole_a_tree_is_refused(self):
        for numbers in NOT_WHOLE:
            with self.subTest(numbers=numbers):
                self.assertEqual(ask(("tree", numbers), ("outcome",)), [[-1], [-8]])

    def test_every_shortened_or_lengthened_tree_is_refused(self):
        for numbers in WHOLE:
            for size in range(len(numbers)):
                with self.subTest(numbers=numbers[:size]):
                    self.assertEqual(last(("tree", numbers[:size])), [-1])
            for more in (-1, 0, 1, LARGEST):
                with self.subTest(numbers=numbers + [more]):
                    self.assertEqual(last(("tree", numbers + [more])), [-1])

    def test_a_tree_told_anew_begins_with_an_empty_row(self):
        found = ask(
            ("tree", [1, 0, 1, 5]), ("step", [2, 3]), ("shown",),
            ("tree", [2, 1, 0, 3, 1, 6]), ("shown",), ("outcome",), ("step", [3, 1]))
        self.assertEqual(found, [[1], [0], [1, 2, 3], [2], [0], [2, 1, 0, 3, 1, 6], [0]])

    def test_the_same_tree_told_anew_begins_with_an_empty_row(self):
        found = ask(("tree", [1, 0, 0]), ("step", [2, 3]), ("tree", [1, 0, 0]), ("shown",), ("outcome",))
        self.assertEqual(found, [[1], [0], [1], [0], [1, 0, 0]])

    def test_a_refused_tree_changes_nothing(self):
        for numbers in NOT_WHOLE:
            with self.subTest(numbers=numbers):
                found = ask(("tree", [1, 0, 1, 5]), ("step", [2, 3]), ("tree", numbers), ("shown",), ("outcome",))
                self.assertEqual(found[2:], [[-1], [1, 2, 3], [2, 0, 1, 5, 3, 0]])
