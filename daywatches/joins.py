"""The days that watches hold together."""

from math import gcd


def inverse(number, size):
    """The integer from 0 on below size that, times number, leaves what 1 leaves when divided by size.

    number and size have no common divisor but 1.
    """
    kept, left = size, number % size
    kept_times, left_times = 0, 1
    while left > 0:
        whole = kept // left
        kept, left = left, kept - whole * left
        kept_times, left_times = left_times, kept_times - whole * left_times
    return kept_times % size


def solved(factor, worth, turn):
    """The pair of the integers d for which factor * d and worth leave the same when divided by turn.

    Just those that leave its second item when divided by its first one are such; None if there is none.
    """
    common = gcd(factor, turn)
    if worth % common != 0:
        return None
    short = turn // common
    return (short, worth // common * inverse(factor // common, short) % short)


def joined(one, other):
    """The pair of the days that two pairs (turn, first) both hold, None if there are none."""
    turn, first = one
    other_turn, other_first = other
    steps = solved(turn, other_first - first, other_turn)
    if steps is None:
        return None
    times, begin = steps
    return (turn * times, first + turn * begin)


def without_none(items):
    """The items that are not None, in order."""
    return [item for item in items if item is not None]
