"""What watches and lots are, and what can be told of their turns alone."""

from math import gcd, lcm

from daywatches.bounds import MAX_TURN, MAX_WATCHES

# The integers between -DAY_END and DAY_END are those of at most DAY_DIGITS digits.
DAY_DIGITS = 18
DAY_END = 10 ** 18


def is_whole_number(value):
    """Whether value is an integer; True and False are none."""
    return isinstance(value, int) and not isinstance(value, bool)


def is_day(value):
    """Whether value is an integer of at most DAY_DIGITS digits."""
    return is_whole_number(value) and -DAY_END < value < DAY_END


def is_pair(value):
    """Whether value is a tuple of two items."""
    return isinstance(value, tuple) and len(value) == 2


def is_turn(value):
    """Whether value is an integer that a watch can have as its turn."""
    return is_whole_number(value) and 1 <= value <= MAX_TURN


def watch_error(value):
    """None for a watch, otherwise the word for what is wrong first."""
    if not is_pair(value):
        return "watch"
    turn, first = value
    if not is_turn(turn):
        return "turn"
    if not is_whole_number(first) or not 0 <= first < turn:
        return "first"
    return None


def lot_error(value):
    """None for a lot, otherwise the pair of the index and the word for what is wrong first."""
    if not isinstance(value, tuple) or len(value) > MAX_WATCHES:
        return (None, "lot")
    for index, item in enumerate(value):
        word = watch_error(item)
        if word is not None:
            return (index, word)
    return None


def watch(turn, day):
    """The watch with this turn that holds the day."""
    return (turn, day % turn)


def turns_of(lot):
    """The turns of the watches, in order."""
    return tuple([turn for turn, first in lot])


def round_of(lot):
    """The least integer from 1 on that all turns of the lot divide."""
    least = 1
    for turn in turns_of(lot):
        least = lcm(least, turn)
    return least


def fraction(top, bottom):
    """The fraction that is worth top divided by bottom, which is from 1 on."""
    common = gcd(top, bottom)
    return (top // common, bottom // common)


def shares_sum(lot):
    """The sum of the shares of the watches, as a fraction."""
    whole = round_of(lot)
    return fraction(sum([whole // turn for turn in turns_of(lot)]), whole)
