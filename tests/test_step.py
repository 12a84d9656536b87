"""Point 2: -8 of all calls but tree; step; with what shown and outcome answer of it."""

import unittest

from asking import LARGEST, WITH_PLACE, ask, last, row_on

TREE = [2, 0, 5, 1, 2, 3, 2, 1, 4, 0]

# Steps that fit TREE, and the tree that comes of each.
FITTING = [
    ([0, 0, 0, 1, 1, 2, 9, 9], [2, 0, 6, 9, 9, 2, 3, 2, 1, 4, 0]),
    ([0, 0, 0, 0, 1, 99], [2, 0, 6, 99, 1, 2, 3, 2, 1, 4, 0]),
    ([0, 0, 4, 1, 1, 0], [2, 0, 4, 1, 2, 3, 2, 4, 0]),
    ([0, 0, 5, 0, 1, 0], [2, 0, 6, 1, 2, 3, 2, 1, 0, 4, 0]),
    ([0, 0, 0, 5, 1, 2, 3, 2, 1, 0], [2, 0, 0, 4, 0]),
    ([0, 0, 1, 2, 2, 3, 8, 1, 2, 3, 4, 5, 6, 7, 8], [2, 0, 11, 1, 1, 2, 3, 4, 5, 6, 7, 8, 2, 1, 4, 0]),
    ([0, 0, 2, 1, 3, 1, 3], TREE),
    ([0, 4, 0, 0, 8, 1, 1, 1, 1, 1, 1, 1, 1], [2, 0, 5, 1, 2, 3, 2, 1, 4, 8, 1, 1, 1, 1, 1, 1, 1, 1]),
    ([1, 0, 1, 2], [2, 0, 5, 2, 1, 3, 1, 2, 4, 0]),
    ([1, 0, 2, 1], [2, 0, 5, 2, 1, 3, 1, 2, 4, 0]),
    ([1, 0, 3, 7], [2, 0, 5, 1, 2, 7, 2, 1, 4, 0]),
    ([1, 0, 7, 3], [2, 0, 5, 1, 2, 7, 2, 1, 4, 0]),
    ([1, 0, 0, 99], TREE),
    ([1, 4, 0, 1], TREE),
    ([2, 9], [3, 0, 5, 1, 2, 3, 2, 1, 4, 0, 9, 0]),
    ([2, 1], [3, 0, 5, 1, 2, 3, 2, 1, 1, 0, 4, 0]),
    ([3, 4], [1, 0, 5, 1, 2, 3, 2, 1]),
    ([4, 0, 9], [2, 4, 0, 9, 5, 1, 2, 3, 2, 1]),
    ([4, 4, 3], [2, 0, 5, 1, 2, 3, 2, 1, 3, 0]),
    ([4, 0, 1], [2, 1, 5, 1, 2, 3, 2, 1, 4, 0]),
]

# Whole steps that don't fit TREE.
NOT_FITTING = [
    [0, 0, 0, 1, 2, 0],
    [0, 0, 4, 2, 1, 1, 0],
    [0, 0, 4, 2, 1, 0, 0],
    [0, 0, 5, 1, 1, 0],
    [0, 0, 6, 0, 1, 1],
    [0, 0, 6, 1, 1, 1, 2],
    [0, 0, 1000, 0, 1, 1],
    [0, 0, 0, 8, 1, 2, 3, 2, 1, 0, 0, 0, 0],
    [0, 1, 0, 0, 1, 1],
    [0, 4, 0, 1, 1, 0],
    [0, 4, 1, 0, 1, 1],
    [1, 1, 1, 2],
    [2, 0],
    [2, 4],
    [3, 0],
    [3, 1],
    [4, 1, 2],
    [4, 0, 4],
    [4, 4, 0],
    [4, 1, 0],
]

NOT_WHOLE = [
    [],
    [0], [1], [2], [3], [4], [5], [-1], [LARGEST], [-LARGEST],
    [5, 0], [5, 0, 1], [-1, 0], [-1, 0, 1], [LARGEST, 0], [6, 0, 0, 1],
    # Hunks: the file, the place, the counts, the tokens, both none, too short, something behind.
    [0, -1, 0, 0, 1, 1],
    [0, 10, 0, 0, 1, 1],
    [0, LARGEST, 0, 0, 1, 1],
    [0, 0, -1, 0, 1, 1],
    [0, 0, 1001, 0, 1, 1],
    [0, 0, LARGEST, 0, 1, 1],
    [0, 0, -LARGEST, 0, 1, 1],
    [0, 0, 0, 0, 0],
    [0, 0, 0, 9] + [1] * 9 + [0],
    [0, 0, 0, 0, 9] + [1] * 9,
    [0, 0, 0, -1, 1, 1],
    [0, 0, 0, 0, -1],
    [0, 0, 0, 1, 1, -1],
    [0, 0, 0, LARGEST, 1],
    [0, 0, 0, 0, LARGEST, 1],
    [0, 0, 0, 1, 100, 0],
    [0, 0, 0, 1, -1, 0],
    [0, 0, 0, 0, 1, 100],
    [0, 0, 0, 0, 1, -1],
    [0, 0, 0, 0, 2, 1, -LARGEST],
    [0, 0],
    [0, 0, 0],
    [0, 0, 0, 0],
    [0, 0, 0, 1],
    [0, 0, 0, 1, 1],
    [0, 0, 0, 0, 1],
    [0, 0, 0, 0, 2, 1],
    [0, 0, 0, 0, 1, 1, 1],
    [0, 0, 0, 1, 1, 0, 0],
    [0, 0, 0, 0, 1, 1] + [0] * 24,
    # Swaps.
    [1, 0], [1, 0, 1], [1, 0, 1, 2, 3], [1, 0, 1, 1], [1, 0, 0, 0],
    [1, 10, 1, 2], [1, -1, 1, 2],
    [1, 0, 100, 2], [1, 0, 2, 100], [1, 0, -1, 2], [1, 0, 2, -1], [1, 0, LARGEST, 2], [1, 0, 2, -LARGEST],
    # Added and removed.
    [2, -1], [2, 10], [2, LARGEST], [2, -LARGEST], [2, 9, 0],
    [3, -1], [3, 10], [3, LARGEST], [3, -LARGEST], [3, 4, 0],
    # Moved.
    [4, 0], [4, 0, 1, 2], [4, 0, 0], [4, 9, 9], [4, 10, 1], [4, -1, 1], [4, 0, 10], [4, 0, -1],
    [4, LARGEST, 1], [4, 0, LARGEST], [4, 0, -LARGEST],
]

# Sixteen steps that can be taken one behind another.
SIXTEEN = [[2, 9], [3, 9]] * 8


class NoTreeTest(unittest.TestCase):
    def test_each_call_but_tree_is_refused(self):
        for call in (("step", [2, 0]), ("step", []), ("step", [0] * 30), ("shown",), ("outcome",), ("turn",)):
            with self.subTest(call=call):
                self.assertEqual(ask(call), [[-8]])

    def test_each_call_with_a_place_is_refused_whatever_the_place(self):
        for name in WITH_PLACE:
            for place in (0, 1, -1, 15, 16, LARGEST, -LARGEST):
                with self.subTest(name=name, place=place):
                    self.assertEqual(ask((name, place)), [[-8]])

    def test_a_refused_tree_is_no_tree(self):
        for call in [("shown",), ("outcome",), ("turn",)] + [(name, 0) for name in WITH_PLACE]:
            with self.subTest(call=call):
                self.assertEqual(ask(("tree", [1, 0]), call), [[-1], [-8]])

    def test_a_step_refused_ahead_of_the_tree_is_not_in_the_row(self):
        self.assertEqual(ask(("step", [2, 0]), ("tree", [0]), ("shown",), ("outcome",)), [[-8], [0], [0], [0]])

    def test_a_tree_without_files_is_a_tree(self):
        self.assertEqual(ask(("tree", [0]), ("shown",), ("outcome",), ("step", [2, 0])), [[0], [0], [0], [0]])


class StepTest(unittest.TestCase):
    def test_a_step_that_fits_is_taken_and_applied(self):
        for step, tree in FITTING:
            with self.subTest(step=step):
                found = ask(("tree", TREE), ("step", step), ("shown",), ("outcome",))
                self.assertEqual(found, [[2], [0], [1] + step, tree])

    def test_a_step_that_does_not_fit_is_refused(self):
        for step in NOT_FITTING:
            with self.subTest(step=step):
                found = ask(("tree", TREE), ("step", step), ("shown",), ("outcome",))
                self.assertEqual(found, [[2], [-4], [0], TREE])

    def test_what_is_not_whole_a_step_is_refused(self):
        for step in NOT_WHOLE:
            with self.subTest(step=step):
                found = ask(("tree", TREE), ("step", step), ("shown",), ("outcome",))
                self.assertEqual(found, [[2], [-1], [0], TREE])

    def test_every_shortened_or_lengthened_step_is_refused(self):
        for step, _ in FITTING:
            for size in range(len(step)):
                with self.subTest(step=step[:size]):
                    self.assertEqual(last(("tree", TREE), ("step", step[:size])), [-1])
            for more in (-1, 0, 1, LARGEST):
                with self.subTest(step=step + [more]):
                    self.assertEqual(last(("tree", TREE), ("step", step + [more])), [-1])

    def test_a_refused_step_changes_nothing_behind_others(self):
        calls = row_on(TREE, [2, 9], [4, 0, 1])
        for step, refusal in ([[4, 1, 1], -1], [[4, 0, 5], -4], [[2, 9], -4]):
            with self.subTest(step=step):
                found = ask(*calls, ("step", step), ("shown",), ("outcome",))[3:]
                self.assertEqual(found, [[refusal], [2, 2, 9, 4, 0, 1], [3, 1, 5, 1, 2, 3, 2, 1, 4, 0, 9, 0]])

    def test_a_step_fits_what_comes_of_the_row_not_the_tree_told(self):
        calls = row_on(TREE, [4, 0, 1], [0, 1, 0, 1, 1, 1, 7], [1, 1, 7, 8], [0, 1, 0, 1, 8, 0], [2, 0], [3, 0])
        self.assertEqual(last(*calls, ("outcome",)), [2, 1, 4, 2, 3, 2, 1, 4, 0])
        self.assertEqual(last(*calls, ("step", [0, 0, 0, 1, 1, 0])), [-4])

    def test_steps_stand_one_behind_another(self):
        calls = row_on(TREE, [2, 9], [1, 0, 3, 4], [4, 0, 1], [3, 4])
        self.assertEqual(last(*calls, ("shown",)), [4, 2, 9, 1, 0, 3, 4, 4, 0, 1, 3, 4])

    def test_a_swap_is_shown_with_its_tokens_as_they_were_told(self):
        self.assertEqual(last(*row_on(TREE, [1, 0, 9, 3]), ("shown",)), [1, 1, 0, 9, 3])

    def test_eight_old_tokens(self):
        found = ask(("tree", [1, 2, 8] + [5] * 8), ("step", [0, 2, 0, 8] + [5] * 8 + [8] + [6] * 8), ("outcome",))
        self.assertEqual(found[1:], [[0], [1, 2, 8] + [6] * 8])

    def test_files_may_outgrow_what_a_told_tree_has(self):
        grown = [0, 0, 0, 0, 8] + [3] * 8
        calls = row_on([1, 0, 12] + [1] * 12, *[grown] * 16)
        self.assertEqual(last(*calls, ("outcome",)), [1, 0, 140] + [3] * 128 + [1] * 12)

    def test_more_files_than_a_told_tree_has(self):
        calls = row_on([0], *[[2, name] for name in reversed(range(10))])
        self.assertEqual(last(*calls, ("outcome",)), [10] + [number for name in range(10) for number in (name, 0)])


class FullRowTest(unittest.TestCase):
    def test_the_sixteenth_step_is_taken_and_no_other(self):
        calls = row_on(TREE, *SIXTEEN)
        row = [16] + [2, 9, 3, 9] * 8
        found = ask(*calls, ("shown",), ("step", [2, 9]), ("shown",), ("outcome",))[17:]
        self.assertEqual(found, [row, [-6], row, TREE])

    def test_not_whole_is_looked_at_ahead_of_a_full_row(self):
        calls = row_on(TREE, *SIXTEEN)
        for step in NOT_WHOLE:
            with self.subTest(step=step):
                self.assertEqual(last(*calls, ("step", step)), [-1])

    def test_a_full_row_is_looked_at_ahead_of_what_fits(self):
        calls = row_on(TREE, *SIXTEEN)
        for step in NOT_FITTING:
            with self.subTest(step=step):
                self.assertEqual(last(*calls, ("step", step)), [-6])

    def test_a_tree_told_anew_makes_room(self):
        self.assertEqual(ask(*row_on(TREE, *SIXTEEN), ("tree", TREE), ("step", [2, 9]))[17:], [[2], [0]])
