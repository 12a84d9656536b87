"""What the words say of rows, tried on many: each call through a row is what single calls come to."""

import unittest

from asking import ask, last

TREE = [2, 0, 7, 1, 2, 3, 4, 1, 2, 3, 1, 0]

ROWS = 250
LONGEST = 8


class Picker:
    """The same numbers each time, so that a row that fails can be looked at again."""

    def __init__(self, seed):
        self.state = seed * 7919 + 17

    def below(self, limit):
        self.state = (self.state * 6364136223846793005 + 1442695040888963407) % 2 ** 64
        return (self.state >> 33) % limit

    def one_of(self, values):
        return values[self.below(len(values))]


def read_files(numbers):
    files = {}
    at = 1
    while at < len(numbers):
        files[numbers[at]] = numbers[at + 2:at + 2 + numbers[at + 1]]
        at += 2 + numbers[at + 1]
    return files


def picked_hunk(picker, name, tokens):
    place = picker.below(len(tokens) + 1)
    old = tokens[place:place + picker.below(3)]
    new = [1 + picker.below(4) for _ in range(picker.below(3))]
    if not old + new:
        new = [5]
    return [0, name, place, len(old)] + old + [len(new)] + new


def picked_step(picker, files):
    kind = picker.one_of("hhhhssamr")
    name = picker.one_of(sorted(files) or [0])
    if kind == "h" and name in files:
        return picked_hunk(picker, name, files[name])
    if kind == "s":
        return [1, name] + picker.one_of([[1, 2], [2, 3], [3, 4], [4, 1], [5, 6]])
    if kind == "m":
        return [4, name, picker.one_of([other for other in range(5) if other != name])]
    return [3, name] if kind == "r" else [2, picker.below(5)]


def picked_row(seed):
    """The calls that tell TREE and a row of steps upon it."""
    picker = Picker(seed)
    calls = [("tree", TREE)]
    size = 3 + picker.below(LONGEST - 2)
    while len(calls) <= size:
        step = ("step", picked_step(picker, read_files(last(*calls, ("outcome",)))))
        if last(*calls, step)[0] >= 0:
            calls.append(step)
    return calls


def commutes(calls, places):
    """The row and how many pairs were commuted, one place after the other till one isn't."""
    found = ask(*calls, *[("commute", place) for place in places])[len(calls):]
    done = 0
    while done < len(places) and found[done] != [-7]:
        done += 1
    return last(*calls, *[("commute", place) for place in places[:done]], ("shown",)), done


class RowLawsTest(unittest.TestCase):
    @classmethod
    def setUpClass(cls):
        cls.rows = [picked_row(seed) for seed in range(ROWS)]

    def at_each_place(self, check):
        """Check each row at each place; the check answers what was seen there, and how often each was is answered."""
        seen = {}
        for calls in self.rows:
            for place in range(len(calls) - 1):
                with self.subTest(calls=calls, place=place):
                    found = check(calls, len(calls) - 1, place)
                    seen[found] = seen.get(found, 0) + 1
        return seen

    def seen_both(self, seen):
        self.assertGreater(min(seen.get(0, 0), seen.get(1, 0)), 100, seen)

    def test_front_is_one_commute_after_another(self):
        def check(calls, size, place):
            row, done = commutes(calls, list(range(place - 1, -1, -1)))
            answer, then, tree = ask(*calls, ("front", place), ("shown",), ("outcome",))[-3:]
            self.assertEqual(tree, last(*calls, ("outcome",)))
            if done < place:
                self.assertEqual([answer, then], [[0, done], last(*calls, ("shown",))])
            else:
                self.assertEqual([answer, then], [[1] + row[1:len(answer)], row])
            return answer[0]

        self.seen_both(self.at_each_place(check))

    def test_back_is_one_commute_after_another(self):
        def check(calls, size, place):
            row, done = commutes(calls, list(range(place, size - 1)))
            answer, then, tree = ask(*calls, ("back", place), ("shown",), ("outcome",))[-3:]
            self.assertEqual(tree, last(*calls, ("outcome",)))
            if done < size - 1 - place:
                self.assertEqual([answer, then], [[0, done], last(*calls, ("shown",))])
            else:
                self.assertEqual([answer, then], [[1] + row[1 - len(answer):], row])
            return answer[0]

        self.seen_both(self.at_each_place(check))

    def test_past_is_one_step_brought_ahead_after_another(self):
        def check(calls, size, place):
            places = [at for first in range(place, size) for at in range(first - 1, first - 1 - place, -1)]
            row, done = commutes(calls, places)
            answer, then, tree = ask(*calls, ("past", place), ("shown",), ("outcome",))[-3:]
            self.assertEqual(tree, last(*calls, ("outcome",)))
            if done < len(places):
                self.assertEqual([answer, then], [[0], last(*calls, ("shown",))])
            else:
                self.assertEqual([answer, then], [[1, size - place], row])
            return answer[0]

        self.seen_both(self.at_each_place(check))

    def test_without_leaves_out_what_back_brings_to_the_end(self):
        def check(calls, size, place):
            tree = last(*calls, ("outcome",))
            brought, row = ask(*calls, ("back", place), ("shown",))[-2:]
            answer, then, left = ask(*calls, ("without", place), ("shown",), ("outcome",))[-3:]
            if brought[0] == 0:
                self.assertEqual([answer, then, left], [brought, row, tree])
            else:
                self.assertEqual([answer, then], [[1, size - 1], [size - 1] + row[1:1 - len(brought)]])
                # The step as it is then, told behind the row without it, has the outcome that there was.
                again = ask(*calls, ("without", place), ("step", brought[1:]), ("outcome",))[-2:]
                self.assertEqual(again, [[size - 1], tree])
            return answer[0]

        self.seen_both(self.at_each_place(check))

    def test_three_is_three_commutes_in_either_way(self):
        def check(calls, size, place):
            # The steps from the place on, told upon the tree that they stand on.
            told = [("tree", last(*calls[:place + 1], ("outcome",)))] + calls[place + 1:place + 4]
            if place + 2 >= size or len(told[0][1]) > 100 or last(told[0]) == [-1]:
                return None
            ways = []
            for places in ([0, 1, 0], [1, 0, 1]):
                row, done = commutes(told, places)
                ways.append([1] + row[1:] if done == 3 else [0])
            self.assertEqual(last(*calls, ("three", place)), ways[0] + ways[1])
            return ways[0][0]

        self.seen_both(self.at_each_place(check))

    def test_a_step_needs_those_that_cannot_be_taken_out_ahead_of_it(self):
        def check(calls, size, place):
            told = calls[:place + 2]
            needed = []
            for at in range(place - 1, -1, -1):
                if last(*told, ("without", at))[0] == 0:
                    needed.insert(0, at)
                else:
                    told = told + [("without", at)]
            self.assertEqual(last(*calls, ("needs", place)), [len(needed)] + needed)
            return len(needed)

        self.seen_both(self.at_each_place(check))

    def test_neededby_is_needs_the_other_way_about(self):
        def check(calls, size, place):
            found = ask(*calls, *[("needs", at) for at in range(size)], ("neededby", place))[len(calls):]
            places = [at for at in range(size) if place in found[at][1:]]
            self.assertEqual(found[size], [len(places)] + places)
            return len(places)

        self.seen_both(self.at_each_place(check))

    def test_turned_twice_a_row_is_as_it_was(self):
        for calls in self.rows:
            with self.subTest(calls=calls):
                row, tree = ask(*calls, ("shown",), ("outcome",))[-2:]
                found = ask(*calls, ("turn",), ("outcome",), ("turn",), ("shown",), ("outcome",))[-5:]
                self.assertEqual(found, [tree, TREE, TREE, row, tree])
