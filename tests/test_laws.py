"""What the words say of all steps, tried on every pair of steps out of a small world, and on threes of fewer."""

import itertools
import unittest

from asking import ask
from stepscommuted.commuting import commuted
from stepscommuted.reading import read_step
from stepscommuted.steps import row_applied, row_turned
from stepscommuted.through import three_commuted
from stepscommuted.trees import read_tree, tree_numbers

TREES = [[2, 0, 3, 1, 2, 1, 1, 0], [2, 0, 5, 1, 2, 3, 1, 2, 2, 1, 1]]
NAMES = (0, 1, 2)
TOKENS = ([], [1], [2], [1, 2], [2, 1], [3, 1])


def hunks():
    return [
        [0, name, place, len(old)] + old + [len(new)] + new
        for name in NAMES for place in range(7) for old in TOKENS for new in TOKENS if old + new]


def swaps():
    return [[1, name, one, other] for name in NAMES for one in (1, 2, 3, 4) for other in (1, 2, 3, 4) if one != other]


def others():
    moves = [[4, old, new] for old in NAMES for new in NAMES if old != new]
    return [[kind, name] for name in NAMES for kind in (2, 3)] + moves


STEPS = [read_step(numbers) for numbers in hunks() + swaps() + others()]

FEWER_STEPS = [read_step(numbers) for numbers in [
    [0, 0, 0, 0, 1, 1], [0, 0, 1, 1, 1, 0], [0, 0, 2, 1, 1, 1, 2], [0, 0, 3, 0, 2, 1, 1], [0, 0, 4, 2, 1, 1, 0],
    [0, 0, 6, 1, 2, 1, 1], [0, 1, 0, 1, 1, 0], [0, 1, 2, 0, 1, 1], [1, 0, 1, 2], [1, 0, 3, 4], [1, 0, 2, 3],
    [1, 1, 1, 2], [2, 0], [2, 1], [3, 0], [3, 1], [4, 0, 1], [4, 1, 0], [4, 0, 2], [4, 2, 1]]]


def fitting(tree):
    return [step for step in STEPS if step.fits(tree)]


def pairs():
    for tree in [read_tree(numbers) for numbers in TREES]:
        for first in fitting(tree):
            for second in fitting(first.applied(tree)):
                yield tree, first, second


def numbers_of(steps):
    return [step.as_numbers() for step in steps]


class LawsTest(unittest.TestCase):
    def test_commuted_steps_fit_have_the_same_outcome_and_commute_back(self):
        seen = 0
        for tree, first, second in pairs():
            pair = commuted(first, second)
            if pair is None:
                continue
            seen += 1
            ahead, behind = pair
            self.assertTrue(ahead.fits(tree))
            self.assertTrue(behind.fits(ahead.applied(tree)))
            self.assertEqual(row_applied(tree, pair), row_applied(tree, (first, second)))
            self.assertEqual(numbers_of(commuted(ahead, behind)), numbers_of((first, second)))
        self.assertGreater(seen, 1000)

    def test_a_move_does_not_commute_with_a_step_inside_its_other_name(self):
        for first, second in (
                ([4, 0, 1], [1, 0, 5, 6]), ([4, 0, 1], [0, 0, 0, 0, 1, 5]),
                ([1, 1, 5, 6], [4, 0, 1]), ([0, 1, 0, 0, 1, 5], [4, 0, 1])):
            with self.subTest(first=first, second=second):
                self.assertIsNone(commuted(read_step(first), read_step(second)))

    def test_a_row_turned_round_leads_back(self):
        for tree, first, second in pairs():
            row = [first, second]
            outcome = row_applied(tree, row)
            back = row_turned(row)
            self.assertTrue(back[0].fits(outcome))
            self.assertTrue(back[1].fits(back[0].applied(outcome)))
            self.assertEqual(row_applied(outcome, back), tree)
            self.assertEqual(numbers_of(row_turned(back)), numbers_of(row))

    def test_three_steps_come_out_alike_in_both_ways_or_in_neither(self):
        seen = {True: 0, False: 0}
        for steps in itertools.product(FEWER_STEPS, repeat=3):
            one, other = [None if way is None else numbers_of(way) for way in three_commuted(list(steps))]
            self.assertEqual(one, other, numbers_of(steps))
            seen[one is None] += 1
        self.assertGreater(min(seen.values()), 1000, seen)

    def test_each_kind_turned_round(self):
        turned = [
            ([0, 3, 7, 1, 5, 2, 8, 9], [0, 3, 7, 2, 8, 9, 1, 5]),
            ([1, 3, 5, 6], [1, 3, 5, 6]),
            ([2, 3], [3, 3]),
            ([3, 3], [2, 3]),
            ([4, 3, 5], [4, 5, 3]),
        ]
        for numbers, back in turned:
            with self.subTest(numbers=numbers):
                self.assertEqual(read_step(numbers).turned().as_numbers(), back)

    def test_why_answers_0_just_where_commute_is_not_refused(self):
        for tree, first, second in list(pairs())[::97]:
            told = [("tree", tree_numbers(tree)), ("step", first.as_numbers()), ("step", second.as_numbers())]
            found = ask(*told, ("why", 0), ("commute", 0))[3:]
            with self.subTest(told=told):
                self.assertEqual(found[0] == [0], found[1] != [-7])

    def test_steps_do_not_change_the_tree_they_are_applied_to(self):
        for numbers in TREES:
            tree = read_tree(numbers)
            for step in fitting(tree):
                step.applied(tree)
                self.assertEqual(tree_numbers(tree), numbers)
