"""What a step in a row needs: needs and neededby."""

import unittest

from asking import ask, row_on

TREE = [2, 0, 8, 1, 2, 3, 4, 5, 6, 7, 8, 4, 0]

# Steps, and of each of them the places of those that it needs.
ROWS = [
    # None.
    ([[2, 9]], [[]]),
    ([[2, 9], [3, 4], [4, 0, 1]], [[], [], []]),
    ([[0, 0, 0, 1, 1, 0], [0, 0, 3, 1, 5, 0], [1, 0, 2, 3], [4, 0, 1]], [[], [], [], []]),
    # One.
    ([[2, 9], [3, 9]], [[], [0]]),
    ([[2, 9], [3, 4], [3, 9]], [[], [], [0]]),
    ([[2, 9], [2, 8], [0, 8, 0, 0, 1, 5], [0, 9, 0, 0, 1, 5]], [[], [], [1], [0]]),
    # Several, each of them for itself.
    ([[0, 0, 0, 1, 1, 1, 9], [0, 0, 2, 1, 3, 1, 9], [0, 0, 0, 3, 9, 2, 9, 0]], [[], [], [0, 1]]),
    ([[1, 0, 1, 2], [1, 0, 3, 4], [2, 9], [1, 0, 2, 3]], [[], [], [], [0, 1]]),
    ([[3, 4], [4, 0, 1], [2, 0], [4, 0, 4]], [[], [], [1], [0, 1, 2]]),
    # Only through another one.
    ([[2, 9], [4, 9, 8], [4, 8, 7]], [[], [0], [0, 1]]),
    ([[1, 0, 1, 2], [1, 0, 2, 3], [1, 0, 3, 4]], [[], [0], [0, 1]]),
    ([[1, 0, 1, 2], [2, 9], [1, 0, 2, 3], [3, 4], [1, 0, 3, 4]], [[], [], [0], [], [0, 2]]),
    ([[0, 0, 0, 1, 1, 1, 9], [0, 0, 1, 1, 2, 1, 9], [0, 0, 2, 1, 3, 1, 9]], [[], [0], [0, 1]]),
    # Brought behind and left out: the needed ones are as they are then, in a file of another name or further up.
    ([[0, 0, 0, 1, 1, 1, 9], [4, 0, 1], [0, 1, 0, 1, 9, 0]], [[], [], [0]]),
    ([[2, 9], [4, 0, 1], [0, 9, 0, 0, 1, 1], [4, 9, 0]], [[], [], [0], [0, 1]]),
    ([[0, 0, 5, 1, 6, 1, 9], [0, 0, 0, 0, 3, 7, 7, 7], [0, 0, 8, 1, 9, 0]], [[], [], [0]]),
    ([[0, 0, 5, 1, 6, 1, 9], [0, 0, 0, 0, 3, 7, 7, 7], [0, 0, 5, 1, 3, 0]], [[], [], []]),
    # As it was told, the third one would touch the first; as it is then, it doesn't.
    ([[0, 0, 5, 0, 1, 9], [0, 0, 0, 3, 1, 2, 3, 0], [0, 0, 4, 1, 7, 0]], [[], [], []]),
    # Left out ahead of a needed one as well: that one is as it is then.
    ([[0, 0, 4, 1, 5, 1, 9], [0, 0, 0, 0, 2, 7, 7], [0, 0, 7, 1, 6, 1, 8], [0, 0, 7, 1, 8, 0]],
     [[], [], [0], [0, 2]]),
    ([[1, 0, 1, 2], [4, 0, 1], [1, 1, 2, 3], [1, 1, 3, 4]], [[], [], [0], [0, 2]]),
    # It would come past a needed one, not past the step itself: it's needed, and those behind stay as they were.
    ([[0, 0, 6, 1, 7, 1, 9], [0, 0, 0, 1, 1, 3, 7, 7, 7], [0, 0, 8, 1, 9, 1, 8],
      [0, 0, 2, 8, 7, 2, 3, 4, 5, 6, 8, 8, 0]],
     [[], [], [0], [0, 1, 2]]),
    # A step behind that needs it doesn't make it needed.
    ([[2, 9], [3, 9], [2, 8]], [[], [0], []]),
]


def turned_about(needed):
    """Of each step the places of those behind it that need it."""
    places = range(len(needed))
    return [[at for at in places if place in needed[at]] for place in places]


class NeedsTest(unittest.TestCase):
    def test_needs(self):
        for steps, needed in ROWS:
            calls = row_on(TREE, *steps)
            for place, places in enumerate(needed):
                with self.subTest(steps=steps, place=place):
                    found = ask(*calls, ("needs", place), ("shown",), ("needs", place))[len(calls):]
                    answer = [len(places)] + places
                    self.assertEqual(found, [answer, [len(steps)] + sum(steps, []), answer])

    def test_neededby(self):
        for steps, needed in ROWS:
            calls = row_on(TREE, *steps)
            for place, places in enumerate(turned_about(needed)):
                with self.subTest(steps=steps, place=place):
                    found = ask(*calls, ("neededby", place), ("shown",), ("neededby", place))[len(calls):]
                    answer = [len(places)] + places
                    self.assertEqual(found, [answer, [len(steps)] + sum(steps, []), answer])

    def test_neither_changes_the_outcome(self):
        calls = row_on(TREE, [0, 0, 0, 1, 1, 3, 9, 9, 9], [0, 0, 6, 1, 5, 0], [4, 0, 1], [1, 1, 2, 3])
        tree = [2, 1, 9, 9, 9, 9, 3, 2, 4, 6, 7, 8, 4, 0]
        for name in ("needs", "neededby"):
            for place in range(4):
                with self.subTest(name=name, place=place):
                    self.assertEqual(ask(*calls, (name, place), ("outcome",))[6], tree)

    def test_a_full_row(self):
        calls = row_on(TREE, *[[2, 9], [3, 9]] * 8)
        found = ask(*calls, ("needs", 15), ("neededby", 0), ("needs", 0), ("neededby", 15), ("needs", 7))[17:]
        self.assertEqual(found, [
            [15] + list(range(15)), [15] + list(range(1, 16)), [0], [0], [7] + list(range(7))])

    def test_after_the_row_is_changed(self):
        calls = row_on(TREE, [2, 9], [3, 4], [3, 9])
        found = ask(*calls, ("needs", 2), ("front", 1), ("needs", 2), ("without", 0), ("needs", 1), ("neededby", 0))[4:]
        self.assertEqual(found, [[1, 0], [1, 3, 4], [1, 1], [1, 2], [1, 0], [1, 1]])
