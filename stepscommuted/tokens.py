"""Names and tokens among handed-over numbers: what trees and steps are both read with."""

LAST_NAME = 9
LAST_TOKEN = 99


def is_name(number):
    return 0 <= number <= LAST_NAME


def is_token(number):
    return 0 <= number <= LAST_TOKEN


def counted_tokens(numbers, at, most):
    """Answer the tokens whose count stands at a place, or None if they aren't all there and at most so many."""
    if at >= len(numbers) or not 0 <= numbers[at] <= most:
        return None
    tokens = numbers[at + 1:at + 1 + numbers[at]]
    if len(tokens) < numbers[at]:
        return None
    if not all([is_token(token) for token in tokens]):
        return None
    return tokens
