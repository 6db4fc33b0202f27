"""Lots that hold each day just once, and lots that are grown by splits."""

from math import gcd

from daywatches.bounds import MAX_TURN, MAX_WATCHES
from daywatches.errors import TooLong
from daywatches.forms import round_of, shares_sum, turns_of
from daywatches.limits import refuse_many


def do_meet(one, other):
    """Whether some day is held by both watches."""
    turn, first = one
    other_turn, other_first = other
    return (first - other_first) % gcd(turn, other_turn) == 0


def meet(lot, index, other_index):
    """Whether some day is held by both watches of the lot."""
    return do_meet(lot[index], lot[other_index])


def meeting_pair(lot):
    """The first pair of indexes, the less one ahead, of watches that meet; None if there is none."""
    for index in range(len(lot)):
        for later in range(index + 1, len(lot)):
            if meet(lot, index, later):
                return (index, later)
    return None


def is_exact(lot):
    """Whether each day is held by just one watch."""
    return shares_sum(lot) == (1, 1) and meeting_pair(lot) is None


def greatest_turn(lot):
    """The greatest turn of a lot with watches, and how many watches have it."""
    turns = turns_of(lot)
    turn = max(turns)
    return (turn, turns.count(turn))


def parts_of(one, parts):
    """The watches that stand in the place of the watch when it is split into so many parts."""
    turn, first = one
    return tuple([(turn * parts, first + k * turn) for k in range(parts)])


def with_parts(lot, index, parts):
    """The lot with the watch split, whatever its new turn is, and however many watches it has then."""
    return lot[:index] + parts_of(lot[index], parts) + lot[index + 1:]


def split(lot, index, parts):
    """The lot with the watch split, the new ones in its place."""
    refuse_many(len(lot) - 1 + parts, MAX_WATCHES)
    turn = lot[index][0] * parts
    if turn > MAX_TURN:
        raise TooLong(turn)
    return with_parts(lot, index, parts)


def watches_within(lot, one):
    """The watches of the lot that hold no other days than this watch."""
    turn, first = one
    return [(its_turn, its_first) for its_turn, its_first in lot if its_turn % turn == 0 and its_first % turn == first]


def common_parts(lot, one):
    """How many parts the watch can be split into, so that each of the watches within it lies in one of them."""
    common = 0
    for turn, _ in watches_within(lot, one):
        common = gcd(common, turn // one[0])
    return common


def grown_by(lot):
    """Splits (index, parts) that lead from ((1, 0),) to the watches of the lot, None if it is not grown."""
    # If all turns within a watch have a common divisor, it does not matter which of their splits goes first;
    # so it is never wrong to split into as many parts as their greatest common divisor tells.
    made = ((1, 0),)
    splits = []
    index = 0
    while index < len(made):
        within = watches_within(lot, made[index])
        if within == [made[index]]:
            index += 1
            continue
        parts = common_parts(lot, made[index])
        if not 2 <= parts <= len(within):
            return None
        splits.append((index, parts))
        made = with_parts(made, index, parts)
    return tuple(splits)


def is_grown(lot):
    """Whether the lot comes of ((1, 0),) by splits, but for the order of its watches."""
    return grown_by(lot) is not None


def chosen_shares(lot, index, rest):
    """Indexes of other watches of an exact lot whose shares come to rest divided by the turn of this one."""
    # All shares are told in parts of one round, as integers.
    whole = round_of(lot)
    chosen = {0: ()}
    for other_index, turn in enumerate(turns_of(lot)):
        if other_index == index:
            continue
        for total, some in list(chosen.items()):
            chosen.setdefault(total + whole // turn, some + (other_index,))
    return chosen[whole // lot[index][0] * rest]
