"""The interface: the document's Example, what is handed in, and that nothing is kept."""

import unittest

from asking import LARGEST, all_numbers, ask, last, row_on
from stepscommuted.rows import answers

EXAMPLE = [
    ("tree", [1, 0, 5, 1, 2, 3, 4, 5]),
    ("step", [0, 0, 0, 1, 1, 2, 9, 9]),
    ("step", [0, 0, 4, 1, 4, 0]),
    ("step", [1, 0, 2, 7]),
    ("step", [4, 0, 1]),
    ("step", [0, 1, 2, 1, 7, 1, 8]),
    ("outcome",),
    ("commute", 0),
    ("needs", 4),
    ("neededby", 1),
    ("without", 1),
    ("back", 0),
    ("three", 0),
    ("turn",),
    ("outcome",),
]

EXAMPLE_ANSWERS = [
    [1], [0], [1], [2], [3], [4],
    [1, 1, 5, 9, 9, 8, 3, 5],
    [0, 0, 3, 1, 4, 0, 0, 0, 0, 1, 1, 2, 9, 9],
    [1, 1],
    [1, 4],
    [0, 2],
    [1, 0, 1, 4, 1, 4, 0],
    [1, 4, 0, 1, 1, 1, 2, 7, 0, 1, 0, 1, 1, 2, 9, 9] * 2,
    [1, 1, 5, 9, 9, 8, 3, 5],
    [1, 0, 5, 1, 2, 3, 4, 5],
]

# What else is asked behind the Example, refusals among it.
MORE = [
    ("why", 0), ("why", 9), ("front", 1), ("past", 4), ("without", 4), ("shown",), ("tree", [1, 0]), ("step", [2]),
    ("step", [2, 5]), ("commute", 7), ("turn",)]


class ExampleTest(unittest.TestCase):
    def test_the_example(self):
        self.assertEqual(ask(*EXAMPLE), EXAMPLE_ANSWERS)

    def test_the_example_as_numbers(self):
        self.assertEqual(
            answers([0, 8, 1, 0, 5, 1, 2, 3, 4, 5, 1, 8, 0, 0, 0, 1, 1, 2, 9, 9, 1, 6, 0, 0, 4, 1, 4, 0, 3, 4, 0]),
            [1, 1, 1, 0, 1, 1, 8, 1, 0, 5, 9, 9, 2, 3, 5, 14, 0, 0, 3, 1, 4, 0, 0, 0, 0, 1, 1, 2, 9, 9])

    def test_the_example_goes_on(self):
        # From ahead of its turn.
        found = ask(*EXAMPLE[:13], ("why", 1), ("front", 2), ("past", 1), ("shown",), ("turn",), ("shown",))[13:]
        self.assertEqual(found, [
            [0],
            [1, 4, 0, 1],
            [1, 4],
            [5, 0, 0, 0, 1, 1, 2, 9, 9, 1, 0, 2, 7, 0, 0, 2, 1, 7, 1, 8, 0, 0, 4, 1, 4, 0, 4, 0, 1],
            [1, 1, 5, 9, 9, 8, 3, 5],
            [5, 4, 1, 0, 0, 0, 4, 0, 1, 4, 0, 0, 2, 1, 8, 1, 7, 1, 0, 2, 7, 0, 0, 0, 2, 9, 9, 1, 1]])


class NumbersTest(unittest.TestCase):
    def test_answers_are_a_list_of_whole_numbers(self):
        answered = answers(all_numbers(EXAMPLE + MORE))
        self.assertIs(answered.__class__, list)
        self.assertEqual({number.__class__ for number in answered}, {int})

    def test_each_call_by_its_number(self):
        told = [0, 3, 1, 0, 0, 1, 2, 2, 9, 1, 4, 1, 0, 5, 6, 1, 2, 3, 9]
        for asked, answer in (
                ([2], [9, 3, 2, 9, 1, 0, 5, 6, 3, 9]), ([3], [3, 1, 0, 0]), ([4, 0], [6, 1, 0, 5, 6, 2, 9]),
                ([5, 0], [1, 0]), ([6, 1], [5, 1, 1, 0, 5, 6]), ([7, 1], [5, 1, 1, 0, 5, 6]), ([8, 2], [2, 1, 0]),
                ([9, 0], [2, 1, 2]), ([10, 1], [2, 1, 2]), ([11, 0], [2, 0, 0]), ([12, 2], [1, 0]),
                ([13], [3, 1, 0, 0])):
            with self.subTest(asked=asked):
                self.assertEqual(answers(told + asked), [1, 1, 1, 0, 1, 1, 1, 2] + answer)

    def test_a_refusal_is_one_number(self):
        self.assertEqual(answers([3]), [1, -8])
        self.assertEqual(answers([0, 0]), [1, -1])
        self.assertEqual(answers([0, 1, 0, 6, -LARGEST, 6, LARGEST]), [1, 0, 1, -2, 1, -2])

    def test_lists_of_the_largest_size(self):
        self.assertEqual(answers([0, 100] + [0] * 100 + [0, 1, 0, 1, 30] + [0] * 30 + [2]), [1, -1, 1, 0, 1, -1, 1, 0])

    def test_eighty_calls(self):
        calls = [("tree", [1, 0, 0])] + [("step", [2, 1])] + [("outcome",)] * 78
        self.assertEqual(ask(*calls), [[1], [0]] + [[2, 0, 0, 1, 0]] * 78)


class NothingKeptTest(unittest.TestCase):
    def test_the_list_handed_in_is_as_it_was(self):
        handed = all_numbers(EXAMPLE + MORE)
        before = list(handed)
        answers(handed)
        self.assertEqual(handed, before)

    def test_the_list_handed_in_is_not_changed_for_a_while_either(self):
        class Unchanging(list):
            def refuse(self, *handed, **named):
                raise AssertionError("the list handed in was changed")

            append = clear = extend = insert = pop = remove = reverse = sort = refuse
            __setitem__ = __delitem__ = __iadd__ = __imul__ = refuse

        self.assertEqual(answers(Unchanging(all_numbers(EXAMPLE + MORE))), answers(all_numbers(EXAMPLE + MORE)))

    def test_two_lists_do_not_bear_on_one_another(self):
        first = answers(all_numbers(EXAMPLE))
        self.assertEqual(answers([2]), [1, -8])
        self.assertEqual(answers([13]), [1, -8])
        self.assertEqual(ask(("tree", [1, 0, 0]), ("shown",), ("outcome",)), [[1], [0], [1, 0, 0]])
        self.assertEqual(answers(all_numbers(EXAMPLE)), first)

    def test_what_was_answered_does_not_bear_on_what_is_answered_next(self):
        calls = row_on([1, 0, 2, 5, 6], [0, 0, 0, 1, 5, 1, 7])
        handed = all_numbers(calls + [("shown",), ("outcome",)])
        first = answers(handed)
        kept = list(first)
        first.clear()
        self.assertEqual(answers(handed), kept)

    def test_answers_of_one_list_do_not_bear_on_one_another(self):
        calls = row_on([1, 0, 2, 5, 6], [0, 0, 0, 1, 5, 1, 7])
        self.assertEqual(
            ask(*calls, ("shown",), ("outcome",), ("shown",), ("outcome",))[2:],
            [[1, 0, 0, 0, 1, 5, 1, 7], [1, 0, 2, 7, 6]] * 2)
        self.assertEqual(last(*calls, ("outcome",)), [1, 0, 2, 7, 6])
