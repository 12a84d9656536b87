"""Point 5: past."""

import unittest

from asking import ask, last, row_on

TREE = [2, 0, 8, 1, 2, 3, 4, 5, 6, 7, 8, 4, 0]

# Steps, a place, and the steps as they are then.
PAST = [
    # At place 0 there are none to come past.
    ([[2, 9]], 0, [[2, 9]]),
    ([[2, 9], [3, 9], [4, 0, 1]], 0, [[2, 9], [3, 9], [4, 0, 1]]),
    # At the last place it's one step.
    ([[2, 9], [3, 9], [4, 0, 1]], 2, [[4, 0, 1], [2, 9], [3, 9]]),
    ([[0, 0, 0, 1, 1, 0], [0, 0, 3, 1, 5, 2, 9, 9], [1, 0, 9, 1]], 2,
     [[1, 0, 9, 1], [0, 0, 0, 1, 9, 0], [0, 0, 3, 1, 5, 2, 1, 1]]),
    # Between.
    ([[2, 9], [3, 4], [4, 0, 1]], 1, [[3, 4], [4, 0, 1], [2, 9]]),
    ([[2, 8], [2, 9], [3, 4], [4, 0, 1]], 2, [[3, 4], [4, 0, 1], [2, 8], [2, 9]]),
    # Steps of one half that don't commute among themselves keep their order.
    ([[2, 9], [4, 9, 8], [4, 0, 1], [4, 1, 2]], 2, [[4, 0, 1], [4, 1, 2], [2, 9], [4, 9, 8]]),
    ([[1, 0, 1, 2], [1, 0, 2, 3], [1, 0, 5, 6], [1, 0, 6, 7], [1, 0, 7, 8]], 2,
     [[1, 0, 5, 6], [1, 0, 6, 7], [1, 0, 7, 8], [1, 0, 1, 2], [1, 0, 2, 3]]),
    # Those before it as they are then, for the second one too.
    ([[0, 0, 0, 1, 1, 0], [0, 0, 1, 1, 3, 0], [4, 0, 1], [0, 1, 4, 1, 7, 0], [1, 1, 2, 3]], 2,
     [[4, 0, 1], [0, 1, 6, 1, 7, 0], [1, 1, 2, 3], [0, 1, 0, 1, 1, 0], [0, 1, 1, 1, 2, 0]]),
    ([[0, 0, 6, 1, 7, 0], [0, 0, 0, 0, 3, 7, 7, 7], [0, 0, 2, 1, 7, 0]], 1,
     [[0, 0, 0, 0, 3, 7, 7, 7], [0, 0, 2, 1, 7, 0], [0, 0, 8, 1, 7, 0]]),
    ([[0, 0, 2, 1, 3, 0], [4, 0, 1], [0, 1, 0, 1, 1, 0]], 1, [[4, 0, 1], [0, 1, 0, 1, 1, 0], [0, 1, 1, 1, 3, 0]]),
    # It can't be: the first one stops, or a later one, at the nearest step or at the first one of all.
    ([[2, 9], [3, 9]], 1, None),
    ([[2, 9], [3, 9], [4, 0, 1]], 1, None),
    ([[2, 9], [3, 4], [3, 9]], 2, None),
    ([[2, 9], [3, 4], [4, 0, 1], [3, 9]], 2, None),
    ([[2, 9], [3, 4], [4, 0, 1], [3, 9]], 1, None),
    ([[0, 0, 2, 1, 3, 0], [4, 0, 1], [0, 1, 1, 1, 2, 0]], 1, None),
    ([[1, 0, 1, 2], [1, 0, 3, 4], [1, 0, 5, 6], [2, 9], [1, 0, 3, 6]], 2, None),
]


class PastTest(unittest.TestCase):
    def test_past(self):
        for steps, place, then in PAST:
            with self.subTest(steps=steps, place=place):
                calls = row_on(TREE, *steps)
                tree = last(*calls, ("outcome",))
                found = ask(*calls, ("past", place), ("shown",), ("outcome",))[len(calls):]
                answer = [0] if then is None else [1, len(steps) - place]
                row = steps if then is None else then
                self.assertEqual(found, [answer, [len(steps)] + sum(row, []), tree])

    def test_those_before_it_come_past_likewise(self):
        for steps, place, then in PAST:
            # At place 0 no steps stand behind those brought ahead.
            if then is not None and place > 0:
                with self.subTest(steps=steps, place=place):
                    calls = row_on(TREE, *steps) + [("past", place)]
                    found = ask(*calls, ("past", len(steps) - place), ("shown",))[len(calls):]
                    self.assertEqual(found, [[1, place], [len(steps)] + sum(steps, [])])

    def test_through_a_full_row(self):
        calls = row_on(TREE, *[[1, 0, 1, 2]] * 8, *[[1, 4, 1, 2]] * 8)
        found = ask(*calls, ("past", 8), ("shown",), ("past", 15), ("past", 7), ("past", 1))[17:]
        self.assertEqual(found, [[1, 8], [16] + [1, 4, 1, 2] * 8 + [1, 0, 1, 2] * 8, [0], [0], [0]])

    def test_the_row_goes_on_from_there(self):
        calls = row_on(TREE, [0, 0, 0, 1, 1, 0], [4, 0, 1]) + [("past", 1), ("step", [0, 1, 0, 1, 2, 0])]
        self.assertEqual(ask(*calls, ("why", 1), ("shown",))[3:], [
            [1, 1], [2], [1], [3, 4, 0, 1, 0, 1, 0, 1, 1, 0, 0, 1, 0, 1, 2, 0]])
