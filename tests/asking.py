"""Asks the program by its interface: calls by name go in, a list of answers comes out."""

from stepscommuted.rows import answers

NUMBERS = {
    "tree": 0, "step": 1, "shown": 2, "outcome": 3, "commute": 4, "why": 5, "front": 6, "back": 7, "needs": 8,
    "neededby": 9, "without": 10, "three": 11, "past": 12, "turn": 13}

WITH_PLACE = ("commute", "why", "front", "back", "needs", "neededby", "without", "three", "past")

LARGEST = 10 ** 18


def call_numbers(call):
    name, handed = call[0], call[1:]
    if name in ("tree", "step"):
        return [NUMBERS[name], len(handed[0])] + list(handed[0])
    return [NUMBERS[name]] + list(handed)


def all_numbers(calls):
    return [number for call in calls for number in call_numbers(call)]


def split(answered):
    found = []
    at = 0
    while at < len(answered):
        count = answered[at]
        answer = answered[at + 1:at + 1 + count]
        if count < 1 or len(answer) != count:
            raise ValueError(f"a count that is not right at {at}: {answered}")
        found.append(answer)
        at += 1 + count
    return found


def ask(*calls):
    """The answer of each call, in order."""
    found = split(answers(all_numbers(calls)))
    if len(found) != len(calls):
        raise ValueError(f"{len(calls)} calls, {len(found)} answers")
    return found


def last(*calls):
    """The answer of the last call."""
    return ask(*calls)[-1]


def row_on(tree, *steps):
    """The calls that tell a tree and steps; all of them are to be taken."""
    calls = [("tree", tree)] + [("step", step) for step in steps]
    for place, answer in enumerate(ask(*calls)[1:]):
        if answer != [place]:
            raise ValueError(f"step {steps[place]} answered {answer}")
    return calls
