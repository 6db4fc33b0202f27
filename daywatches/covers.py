"""What holds for all days, decided by a few days in a row."""

from daywatches.bounds import MAX_SMALL
from daywatches.changes import seen
from daywatches.days import enough_days, tallies_from
from daywatches.errors import Open
from daywatches.exacts import meet
from daywatches.joins import joined
from daywatches.limits import refuse_many


def few_tallies(lot):
    """The tallies of as many days from 0 on as decide for all days."""
    return tallies_from(lot, 0, enough_days(lot))


def open_day(lot, least):
    """The least day from 0 on that is held by fewer watches than least, None if there is none."""
    for day, held in enumerate(few_tallies(lot)):
        if held < least:
            return day
    return None


def is_held(lot, least):
    """Whether each day is held by at least so many watches."""
    return open_day(lot, least) is None


def refuse_open(lot):
    """Raise Open with the least open day from 0 on, if a day is open."""
    day = open_day(lot, 1)
    if day is not None:
        raise Open(day)


def least_tally(lot):
    """The least tally of all days."""
    return min(few_tallies(lot))


def greatest_tally(lot):
    """The greatest tally of all days."""
    # Watches hold some day together if each two of them meet, however far away that day is.
    groups = [()]
    for index in range(len(lot)):
        groups = groups + [some + (index,) for some in groups if all([meet(lot, index, other) for other in some])]
    return max([len(some) for some in groups])


def all_held(lot, days, place):
    """Whether a watch holds all days that are so many behind those of the pair (turn, first)."""
    turn, first = days
    return any([turn % its_turn == 0 and (first + place) % its_turn == its_first for its_turn, its_first in lot])


def held_from(lot, days, place, free):
    """How many days in a row, from one of these days on, are held at most.

    days is a pair (turn, first); from each of its days on so many days as place tells are held, by watches that do
    not stand in free.
    """
    while all_held(lot, days, place):
        place += 1
    longest = place
    for index in free:
        turn, first = lot[index]
        fewer = joined(days, (turn, first - place))
        if fewer is not None:
            others = tuple([other for other in free if other != index])
            longest = max(longest, held_from(lot, fewer, place + 1, others))
    return longest


def longest_held(lot):
    """How many days in a row are held at most, -1 if no day is open."""
    refuse_many(len(lot), MAX_SMALL)
    if is_held(lot, 1):
        return -1
    return held_from(lot, (1, 0), 0, tuple(range(len(lot))))


def day_out(one, other):
    """A day that one holds and other does not, None if there is none."""
    for turn, first in one:
        steps = open_day(seen(other, turn, first), 1)
        if steps is not None:
            return first + turn * steps
    return None


def within(one, other):
    """Whether each day that one holds is held by other."""
    return day_out(one, other) is None


def same_days(one, other):
    """Whether both lots hold the same days."""
    return within(one, other) and within(other, one)
