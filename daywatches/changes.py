"""Lots that are made of lots."""

from daywatches.bounds import MAX_LITTLE, MAX_TURN, MAX_WATCHES
from daywatches.forms import turns_of, watch
from daywatches.joins import joined, solved, without_none
from daywatches.limits import refuse_long, refuse_many


def shifted(lot, day):
    """The lot in which each watch holds what it holds here, so many days later."""
    return tuple([watch(turn, first + day) for turn, first in lot])


def mirrored(lot):
    """The lot in which each watch holds a day if it holds minus this day here."""
    return tuple([watch(turn, -first) for turn, first in lot])


def stretched(lot, times):
    """The lot in which each watch holds just the days that it holds here, times so many."""
    longer = tuple([(turn * times, first * times) for turn, first in lot])
    refuse_long(longer, MAX_TURN)
    return longer


def seen(lot, size, rest):
    """The lot that holds d where this one holds rest + size * d; watches that hold no such day are left out."""
    return tuple(without_none([solved(size, first - rest, turn) for turn, first in lot]))


def together(one, other):
    """The watches of one, followed by those of other."""
    both = one + other
    refuse_many(len(both), MAX_WATCHES)
    return both


def crossed(one, other):
    """The watches of the days that a watch of one and a watch of other both hold, for each two that meet."""
    met = tuple(without_none([joined(mine, yours) for mine in one for yours in other]))
    refuse_many(len(met), MAX_WATCHES)
    refuse_long(met, MAX_TURN)
    return met


def is_little(lot):
    """Whether the lot is little."""
    return max(turns_of(lot), default=1) <= MAX_LITTLE
