"""The days that a lot holds and those that it leaves open."""

from math import comb

from daywatches.forms import fraction, round_of, turns_of
from daywatches.joins import joined, without_none
from daywatches.terms import day_at, days_in, held_worths, open_worths


def holders(lot, day):
    """The indexes of the watches that hold the day."""
    return tuple([index for index, (turn, first) in enumerate(lot) if day % turn == first])


def tally(lot, day):
    """How many watches hold the day."""
    return len(holders(lot, day))


def tallies_from(lot, begin, many):
    """A list of the tallies of so many days in a row, from begin on."""
    told = [0] * many
    for turn, first in lot:
        for place in range((first - begin) % turn, many, turn):
            told[place] = told[place] + 1
    return told


def meeting(lot, some):
    """The pair (turn, first) of the days that all these watches hold, None if there are none."""
    held = (1, 0)
    for index in some:
        held = joined(held, lot[index])
        if held is None:
            return None
    return held


def next_held(lot, day):
    """The least held day from this day on, None if the lot has no watch."""
    if len(lot) == 0:
        return None
    return min([day + (first - day) % turn for turn, first in lot])


def enough_days(lot):
    """How many days in a row always decide for all days: 2 ** n for n watches."""
    return 1 << len(lot)


def next_open(lot, day):
    """The least open day from this day on, None if no day is open."""
    for later in range(enough_days(lot)):
        if tally(lot, day + later) == 0:
            return day + later
    return None


def held_at(lot, day, count):
    """The count-th held day from day on, None for the lot without watches."""
    if len(lot) == 0:
        return None
    end = day + count * min(turns_of(lot))
    return day_at(held_worths(lot, day, end), day, end, count)


def open_at(lot, day, count):
    """The count-th open day from day on, None if no day is open."""
    many = enough_days(lot)
    near = [place for place, held in enumerate(tallies_from(lot, day, many)) if held == 0]
    if len(near) == 0:
        return None
    if count <= len(near):
        return day + near[count - 1]
    end = day + count * many
    return day_at(open_worths(lot, day, end), day, end, count)


def meetings(lot):
    """For each size, from 0 on, the list of the meetings (turn, first) of all choices of so many watches that meet."""
    groups = [[(1, 0)]]
    for one in lot:
        wider = [[]] + [without_none([joined(pair, one) for pair in pairs]) for pairs in groups]
        groups = [pairs + more for pairs, more in zip(groups + [[]], wider)]
    return groups


def just_held(met, times):
    """How many days are held by just so many watches.

    met tells, for each number of watches, how many days all meetings of so many watches have together.
    """
    # A day that is held by more watches stands in comb(more, size) of the meetings of size watches; with
    # these signs all days with another tally are counted away.
    total = 0
    sign = 1
    for size in range(times, len(met)):
        total = total + sign * comb(size, times) * met[size]
        sign = -sign
    return total


def counts(lot, begin, end):
    """For each number of watches, from 0 on, how many days of the stretch just so many hold."""
    met = [sum([days_in(turn, first, begin, end) for turn, first in pairs]) for pairs in meetings(lot)]
    return tuple([just_held(met, times) for times in range(len(met))])


def day_shares(lot):
    """For each number of watches, from 0 on, the part of all days that just so many hold, as a fraction."""
    whole = round_of(lot)
    return tuple([fraction(many, whole) for many in counts(lot, 0, whole)])
