"""The calls on one tree and its row of steps, as lists of whole numbers."""

from stepscommuted.commuting import why_not
from stepscommuted.reading import read_step
from stepscommuted.steps import row_applied
from stepscommuted.steps import row_numbers
from stepscommuted.steps import row_turned
from stepscommuted.through import brought_ahead
from stepscommuted.through import brought_behind
from stepscommuted.through import commuted_at
from stepscommuted.through import needed_places
from stepscommuted.through import rest_brought_ahead
from stepscommuted.through import three_commuted
from stepscommuted.trees import read_tree
from stepscommuted.trees import tree_numbers

NOT_WHOLE = -1
NO_SUCH_STEP = -2
DOES_NOT_FIT = -4
ROW_IS_FULL = -6
DO_NOT_COMMUTE = -7
NO_TREE = -8

MOST_STEPS = 16


class RowOnTree:
    def __init__(self):
        self.ground = None
        self.row = []


def tell_tree(held, numbers):
    ground = read_tree(numbers)
    if ground is None:
        return [NOT_WHOLE]
    held.ground = ground
    held.row = []
    return [len(ground)]


def tell_step(held, numbers):
    step = read_step(numbers)
    if step is None:
        return [NOT_WHOLE]
    if len(held.row) >= MOST_STEPS:
        return [ROW_IS_FULL]
    if not step.fits(row_applied(held.ground, held.row)):
        return [DOES_NOT_FIT]
    held.row = held.row + [step]
    return [len(held.row) - 1]


def shown(held):
    return row_numbers(held.row)


def outcome(held):
    return tree_numbers(row_applied(held.ground, held.row))


def commute(held, place):
    after = commuted_at(held.row, place)
    if after is None:
        return [DO_NOT_COMMUTE]
    held.row = after
    return after[place].as_numbers() + after[place + 1].as_numbers()


def why(held, place):
    return [why_not(held.row[place], held.row[place + 1])]


def front(held, place):
    brought = brought_ahead(held.row, place, 0)
    if brought[1] > 0:
        return [0, place - brought[1]]
    held.row = brought[0]
    return [1] + held.row[0].as_numbers()


def back(held, place):
    brought = brought_behind(held.row, place)
    if brought[1] < len(held.row) - 1:
        return [0, brought[1] - place]
    held.row = brought[0]
    return [1] + held.row[-1].as_numbers()


def needs(held, place):
    places = needed_places(held.row, place)
    return [len(places)] + places


def needed_by(held, place):
    places = [at for at in range(place + 1, len(held.row)) if place in needed_places(held.row, at)]
    return [len(places)] + places


def without(held, place):
    answer = back(held, place)
    if answer[0] == 0:
        return answer
    held.row = held.row[:-1]
    return [1, len(held.row)]


def three(held, place):
    numbers = []
    for steps in three_commuted(held.row[place:place + 3]):
        if steps is None:
            numbers.append(0)
        else:
            numbers.append(1)
            for step in steps:
                numbers.extend(step.as_numbers())
    return numbers


def past(held, place):
    after = rest_brought_ahead(held.row, place)
    if after is None:
        return [0]
    held.row = after
    return [1, len(after) - place]


def turn(held):
    held.ground = row_applied(held.ground, held.row)
    held.row = row_turned(held.row)
    return tree_numbers(held.ground)


TREE_CALL = 0
LIST_CALLS = {0: tell_tree, 1: tell_step}
PLAIN_CALLS = {2: shown, 3: outcome, 13: turn}
PLACE_CALLS = {
    4: commute, 5: why, 6: front, 7: back, 8: needs, 9: needed_by, 10: without, 11: three, 12: past}

# commute and why ask for a next step, three for two: by call, how many must stand behind the one at the place.
STEPS_BEHIND = {4: 1, 5: 1, 11: 2}


def answer_call(held, call, handed):
    if held.ground is None and call != TREE_CALL:
        return [NO_TREE]
    if call in LIST_CALLS:
        return LIST_CALLS[call](held, handed[1:])
    if call in PLAIN_CALLS:
        return PLAIN_CALLS[call](held)
    place = handed[0]
    if not 0 <= place < len(held.row) - STEPS_BEHIND.get(call, 0):
        return [NO_SUCH_STEP]
    return PLACE_CALLS[call](held, place)


def call_size(calls, at):
    if calls[at] in LIST_CALLS:
        return 2 + calls[at + 1]
    return 1 if calls[at] in PLAIN_CALLS else 2


def answers(calls):
    held = RowOnTree()
    answered = []
    at = 0
    while at < len(calls):
        size = call_size(calls, at)
        answer = answer_call(held, calls[at], calls[at + 1:at + size])
        answered.append(len(answer))
        answered.extend(answer)
        at += size
    return answered
