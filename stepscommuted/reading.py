"""Steps as they are handed over: each reader answers the step, or None if the numbers aren't whole one."""

from stepscommuted.steps import ADDED
from stepscommuted.steps import Added
from stepscommuted.steps import HUNK
from stepscommuted.steps import Hunk
from stepscommuted.steps import MOVED
from stepscommuted.steps import Moved
from stepscommuted.steps import REMOVED
from stepscommuted.steps import Removed
from stepscommuted.steps import SWAP
from stepscommuted.steps import Swap
from stepscommuted.tokens import counted_tokens
from stepscommuted.tokens import is_name
from stepscommuted.tokens import is_token

MOST_CHANGED = 8
LAST_PLACE = 1000


def read_step(numbers):
    if len(numbers) < 2 or not is_name(numbers[1]):
        return None
    kind = numbers[0]
    if kind == HUNK:
        return read_hunk(numbers)
    if kind == SWAP:
        return read_swap(numbers)
    if kind == ADDED and len(numbers) == 2:
        return Added(numbers[1])
    if kind == REMOVED and len(numbers) == 2:
        return Removed(numbers[1])
    if kind == MOVED:
        return read_move(numbers)
    return None


def read_hunk(numbers):
    if len(numbers) < 3 or not 0 <= numbers[2] <= LAST_PLACE:
        return None
    old = counted_tokens(numbers, 3, MOST_CHANGED)
    if old is None:
        return None
    new = counted_tokens(numbers, 4 + len(old), MOST_CHANGED)
    if new is None:
        return None
    changed = len(old) + len(new)
    if changed == 0 or len(numbers) != 5 + changed:
        return None
    return Hunk(numbers[1], numbers[2], old, new)


def read_swap(numbers):
    if len(numbers) != 4 or not is_token(numbers[2]) or not is_token(numbers[3]):
        return None
    if numbers[2] == numbers[3]:
        return None
    return Swap(numbers[1], numbers[2], numbers[3])


def read_move(numbers):
    if len(numbers) != 3 or not is_name(numbers[2]) or numbers[1] == numbers[2]:
        return None
    return Moved(numbers[1], numbers[2])
