"""When two steps commute, and to what; and why they don't."""

from stepscommuted.steps import Hunk
from stepscommuted.steps import Moved
from stepscommuted.steps import Swap

THEY_COMMUTE = 0
HUNKS_TOUCH = 1
SWAPS_TOUCH = 2
ELSE_NOT = 3


def commuted(first, second):
    """Answer what the second and then the first one become, or None if they don't commute."""
    if not share_name(first, second):
        return (second, first)
    if isinstance(first, Moved) or isinstance(second, Moved):
        return commuted_with_move(first, second)
    if isinstance(first, Hunk) and isinstance(second, Hunk):
        return commuted_hunks(first, second)
    if isinstance(first, Hunk) and isinstance(second, Swap):
        return (second, hunk_swapped(first, second))
    if isinstance(first, Swap) and isinstance(second, Hunk):
        return (hunk_swapped(second, first), first)
    if isinstance(first, Swap) and isinstance(second, Swap) and not share_token(first, second):
        return (second, first)
    return None


def share_name(first, second):
    return any([name in second.names() for name in first.names()])


def share_token(first, second):
    return first.one in (second.one, second.other) or first.other in (second.one, second.other)


def commuted_with_move(first, second):
    # A step inside the other one of the move's names doesn't meet the moved file, so only one name is asked for.
    if isinstance(first, Moved) and is_inside(second, first.new_name):
        return (second.inside(first.old_name), first)
    if isinstance(second, Moved) and is_inside(first, second.old_name):
        return (second, first.inside(second.new_name))
    return None


def is_inside(step, name):
    return isinstance(step, (Hunk, Swap)) and step.name == name


def commuted_hunks(first, second):
    if second.place - first.place > len(first.new):
        return (second.shifted(len(first.new), len(first.old)), first)
    if first.place - second.place > len(second.old):
        return (second, first.shifted(len(second.old), len(second.new)))
    return None


def hunk_swapped(hunk, swap):
    return Hunk(hunk.name, hunk.place, swap.swapped(hunk.old), swap.swapped(hunk.new))


def why_not(first, second):
    if commuted(first, second) is not None:
        return THEY_COMMUTE
    # Steps inside files with unlike names commute, so two that don't are inside one file.
    if isinstance(first, Hunk) and isinstance(second, Hunk):
        return HUNKS_TOUCH
    if isinstance(first, Swap) and isinstance(second, Swap):
        return SWAPS_TOUCH
    return ELSE_NOT
