"""The days that a lot holds and those that it leaves open."""

from math import comb

from daywatches.forms import fraction, round_of, turns_of
from daywatches.joins import joined, without_none


def holders(lot, day):
    """The indexes of the watches that hold the day."""
    return tuple([index for index, (turn, first) in enumerate(lot) if day % turn == first])


def tally(lot, day):
    """How many watches hold the day."""
    return len(holders(lot, day))


def tallies_from(lot, begin, many):
    """A list of the tallies of so many days in a row, from begin on."""
    told = [0] * many
    for turn, first in lot:
        for place in range((first - begin) % turn, many, turn):
            told[place] = told[place] + 1
    return told


def meeting(lot, some):
    """The pair (turn, first) of the days that all these watches hold, None if there are none."""
    held = (1, 0)
    for index in some:
        held = joined(held, lot[index])
        if held is None:
            return None
    return held


def next_held(lot, day):
    """The least held day from this day on, None if the lot has no watch."""
    if len(lot) == 0:
        return None
    return min([day + (first - day) % turn for turn, first in lot])


def enough_days(lot):
    """How many days in a row always decide for all days: 2 ** n for n watches."""
    return 1 << len(lot)


def next_open(lot, day):
    """The least open day from this day on, None if no day is open."""
    for later in range(enough_days(lot)):
        if tally(lot, day + later) == 0:
            return day + later
    return None


def days_in(turn, first, begin, end):
    """How many days of the stretch leave first when divided by turn."""
    return (end - 1 - first) // turn - (begin - 1 - first) // turn


def meetings(lot):
    """For each size, from 0 on, the list of the meetings (turn, first) of all choices of so many watches that meet."""
    groups = [[(1, 0)]]
    for one in lot:
        wider = [[]] + [without_none([joined(pair, one) for pair in pairs]) for pairs in groups]
        groups = [pairs + more for pairs, more in zip(groups + [[]], wider)]
    return groups


def open_terms(lot):
    """Triples (turn, first, worth) that tell the open days, as terms_days counts them."""
    # A held day stands in as many meetings of an even number of watches as of an odd number, an open day
    # only in the meeting of none. Equal meetings are put together, since many watches often have few.
    worths = {}
    sign = 1
    for pairs in meetings(lot):
        for pair in pairs:
            worths[pair] = worths.get(pair, 0) + sign
        sign = -sign
    return [(turn, first, worth) for (turn, first), worth in worths.items() if worth != 0]


def held_terms(lot):
    """Triples (turn, first, worth) that tell the held days, as terms_days counts them."""
    return [(1, 0, 1)] + [(turn, first, -worth) for turn, first, worth in open_terms(lot)]


def terms_days(terms, begin, end):
    """How many days of the stretch the terms tell: those of each pair (turn, first), times its worth."""
    return sum([worth * days_in(turn, first, begin, end) for turn, first, worth in terms])


def day_at(terms, day, last, count):
    """The count-th, from day on, of the days that the terms tell; it is not behind last."""
    low, high = day, last
    while low < high:
        middle = (low + high) // 2
        if terms_days(terms, day, middle + 1) >= count:
            high = middle
        else:
            low = middle + 1
    return low


def held_at(lot, day, count):
    """The count-th held day from day on, None for the lot without watches."""
    if len(lot) == 0:
        return None
    return day_at(held_terms(lot), day, day + count * min(turns_of(lot)) - 1, count)


def open_at(lot, day, count):
    """The count-th open day from day on, None if no day is open."""
    if next_open(lot, day) is None:
        return None
    return day_at(open_terms(lot), day, day + count * enough_days(lot) - 1, count)


def just_held(met, times):
    """How many days are held by just so many watches.

    met tells, for each number of watches, how many days all meetings of so many watches have together.
    """
    # A day that is held by more watches stands in comb(more, size) of the meetings of size watches; with
    # these signs all days with another tally are counted away.
    total = 0
    sign = 1
    for size in range(times, len(met)):
        total = total + sign * comb(size, times) * met[size]
        sign = -sign
    return total


def counts(lot, begin, end):
    """For each number of watches, from 0 on, how many days of the stretch just so many hold."""
    met = [sum([days_in(turn, first, begin, end) for turn, first in pairs]) for pairs in meetings(lot)]
    return tuple([just_held(met, times) for times in range(len(met))])


def day_shares(lot):
    """For each number of watches, from 0 on, the part of all days that just so many hold, as a fraction."""
    whole = round_of(lot)
    return tuple([fraction(many, whole) for many in counts(lot, 0, whole)])
