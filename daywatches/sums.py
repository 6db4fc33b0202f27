"""The sums of a lot, which tell how many days in a row decide for all days."""

from math import gcd

from daywatches.forms import fraction, is_whole_number, round_of


def sums_by(lot, weights):
    """The sums of the lot with these weights, in ascending order of what they are worth."""
    # All sums are told in parts of one round, as integers, so that equal ones are seen to be equal.
    whole = round_of(lot)
    tops = [0]
    for (turn, _), weight in zip(lot, weights):
        step = whole // turn * weight
        tops = sorted(set(tops + [(top + step) % whole for top in tops]))
    return tuple([fraction(top, whole) for top in tops])


def sums(lot):
    """The sums of the lot with all weights 1, in ascending order of what they are worth."""
    return sums_by(lot, (1,) * len(lot))


def few_days(lot):
    """How many days in a row decide for all days: as many as sums tells fractions."""
    return len(sums(lot))


def is_weight(turn, value):
    """Whether value is a right weight of a watch with this turn."""
    return is_whole_number(value) and 1 <= value <= turn and gcd(value, turn) == 1


def weights_error(lot, value):
    """None for right weights, otherwise the pair of the index and the word for what is wrong first."""
    if not isinstance(value, tuple) or len(value) != len(lot):
        return (None, "weights")
    for index, (turn, _) in enumerate(lot):
        if not is_weight(turn, value[index]):
            return (index, "weight")
    return None
