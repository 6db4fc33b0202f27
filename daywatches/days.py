"""The days that a lot holds and those that it leaves open."""

from math import comb

from daywatches.forms import fraction, round_of, turns_of
from daywatches.joins import joined, without_none


def holders(lot, day):
    """The indexes of the watches that hold the day."""
    return tuple([index for index, (turn, first) in enumerate(lot) if day % turn == first])


def tally(lot, day):
    """How many watches hold the day."""
    return len(holders(lot, day))


def tallies_from(lot, begin, many):
    """A list of the tallies of so many days in a row, from begin on."""
    told = [0] * many
    for turn, first in lot:
        for place in range((first - begin) % turn, many, turn):
            told[place] = told[place] + 1
    return told


def meeting(lot, some):
    """The pair (turn, first) of the days that all these watches hold, None if there are none."""
    held = (1, 0)
    for index in some:
        held = joined(held, lot[index])
        if held is None:
            return None
    return held


def next_held(lot, day):
    """The least held day from this day on, None if the lot has no watch."""
    if len(lot) == 0:
        return None
    return min([day + (first - day) % turn for turn, first in lot])


def enough_days(lot):
    """How many days in a row always decide for all days: 2 ** n for n watches."""
    return 1 << len(lot)


def next_open(lot, day):
    """The least open day from this day on, None if no day is open."""
    for later in range(enough_days(lot)):
        if tally(lot, day + later) == 0:
            return day + later
    return None


def days_in(turn, first, begin, end):
    """How many days of the stretch leave first when divided by turn."""
    return (end - 1 - first) // turn - (begin - 1 - first) // turn


def meetings(lot):
    """For each size, from 0 on, the list of the meetings (turn, first) of all choices of so many watches that meet."""
    groups = [[(1, 0)]]
    for one in lot:
        wider = [[]] + [without_none([joined(pair, one) for pair in pairs]) for pairs in groups]
        groups = [pairs + more for pairs, more in zip(groups + [[]], wider)]
    return groups


def within_stretch(pair, begin, end):
    """A pair (turn, first) with the same days of the stretch, None if it has none of them.

    For just one day it is one and the same pair, whatever the turn was: that with the length of the stretch as turn.
    """
    turn, first = pair
    day = begin + (first - begin) % turn
    if day >= end:
        return None
    if day + turn < end:
        return pair
    return (end - begin, day % (end - begin))


def joined_within(pair, one, begin, end):
    """A pair with the days of the stretch that this pair, one of within_stretch, and the watch both hold, or None."""
    turn, first = pair
    if turn < end - begin:
        met = joined(pair, one)
        return None if met is None else within_stretch(met, begin, end)
    # There is but one day, and no need to tell where the two meet again.
    day = begin + (first - begin) % turn
    return pair if day % one[0] == one[1] else None


def open_worths(lot, begin, end):
    """A dict of pairs (turn, first) and their worths, which tell the open days of the stretch as terms_days counts."""
    # At first all days are told. Each watch takes away what it has in common with what is told so far; the longest
    # ones go ahead, since the least is left of what they have in common.
    worths = {within_stretch((1, 0), begin, end): 1}
    for one in sorted(lot, reverse=True):
        for pair, worth in list(worths.items()):
            met = joined_within(pair, one, begin, end) if worth != 0 else None
            if met is not None:
                worths[met] = worths.get(met, 0) - worth
    return worths


def held_worths(lot, begin, end):
    """A dict of pairs (turn, first) and their worths, which tell the held days of the stretch as terms_days counts."""
    worths = {pair: -worth for pair, worth in open_worths(lot, begin, end).items()}
    all_days = within_stretch((1, 0), begin, end)
    worths[all_days] = worths[all_days] + 1
    return worths


def terms_days(terms, begin, end):
    """How many days of the stretch the terms tell: those of each pair (turn, first), times its worth."""
    return sum([worth * days_in(turn, first, begin, end) for turn, first, worth in terms])


def terms_within(terms, begin, end):
    """Those of the terms that have a day of the stretch."""
    return [(turn, first, worth) for turn, first, worth in terms if days_in(turn, first, begin, end) > 0]


def likely_stretch(terms, begin, end, count):
    """A part of the stretch in which the count-th of the days lies that the terms tell of it."""
    # Of days in a row each term has its share, but for less than a day more or less; and less than another day is
    # left out where the shares are told in parts of the whole length.
    length = end - begin
    share = sum([worth * (length // turn) for turn, _, worth in terms])
    if share <= 0:
        return (begin, end)
    more_or_less = 2 * sum([abs(worth) for _, _, worth in terms])
    low = begin - 1 + (count - more_or_less) * length // share
    high = begin + (count + more_or_less) * length // share
    return (max(begin, low), min(end, high))


def day_at(worths, begin, end, count):
    """The count-th of the days that the worths tell of the stretch; there are so many at least."""
    terms = [(turn, first, worth) for (turn, first), worth in worths.items() if worth != 0]
    low, high = likely_stretch(terms, begin, end, count)
    left = count - terms_days(terms, begin, low)
    while high - low > 1:
        terms = terms_within(terms, low, high)
        middle = (low + high) // 2
        told = terms_days(terms, low, middle)
        if told < left:
            low = middle
            left = left - told
        else:
            high = middle
    return low


def held_at(lot, day, count):
    """The count-th held day from day on, None for the lot without watches."""
    if len(lot) == 0:
        return None
    end = day + count * min(turns_of(lot))
    return day_at(held_worths(lot, day, end), day, end, count)


def open_at(lot, day, count):
    """The count-th open day from day on, None if no day is open."""
    many = enough_days(lot)
    near = [place for place, held in enumerate(tallies_from(lot, day, many)) if held == 0]
    if len(near) == 0:
        return None
    if count <= len(near):
        return day + near[count - 1]
    end = day + count * many
    return day_at(open_worths(lot, day, end), day, end, count)


def just_held(met, times):
    """How many days are held by just so many watches.

    met tells, for each number of watches, how many days all meetings of so many watches have together.
    """
    # A day that is held by more watches stands in comb(more, size) of the meetings of size watches; with
    # these signs all days with another tally are counted away.
    total = 0
    sign = 1
    for size in range(times, len(met)):
        total = total + sign * comb(size, times) * met[size]
        sign = -sign
    return total


def counts(lot, begin, end):
    """For each number of watches, from 0 on, how many days of the stretch just so many hold."""
    met = [sum([days_in(turn, first, begin, end) for turn, first in pairs]) for pairs in meetings(lot)]
    return tuple([just_held(met, times) for times in range(len(met))])


def day_shares(lot):
    """For each number of watches, from 0 on, the part of all days that just so many hold, as a fraction."""
    whole = round_of(lot)
    return tuple([fraction(many, whole) for many in counts(lot, 0, whole)])
