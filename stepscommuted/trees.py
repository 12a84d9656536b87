"""Trees: dicts from a file's name to the list of its tokens. None of them is changed once it's made."""

from stepscommuted.tokens import counted_tokens
from stepscommuted.tokens import is_name

MOST_FILES = 6
MOST_TOKENS = 12


def read_tree(numbers):
    """Answer the tree that the numbers tell, or None if they aren't whole a tree."""
    if not numbers or not 0 <= numbers[0] <= MOST_FILES:
        return None
    tree = {}
    last_name = -1
    at = 1
    while len(tree) < numbers[0]:
        if at >= len(numbers) or not is_name(numbers[at]) or numbers[at] <= last_name:
            return None
        tokens = counted_tokens(numbers, at + 1, MOST_TOKENS)
        if tokens is None:
            return None
        last_name = numbers[at]
        tree[last_name] = tokens
        at += 2 + len(tokens)
    return tree if at == len(numbers) else None


def tree_numbers(tree):
    numbers = [len(tree)]
    for name in sorted(tree):
        numbers.append(name)
        numbers.append(len(tree[name]))
        numbers.extend(tree[name])
    return numbers
