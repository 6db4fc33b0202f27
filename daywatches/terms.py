"""The open days and the held days of a stretch, counted by what the watches have in common there.

A stretch are the days from begin on that are less than end. Worths are a dict of pairs (turn, first) and integers,
terms a list of triples (turn, first, worth). They tell each day as often as the worths of those pairs come to that it
is one of: whose first it leaves when divided by turn. Here each day is told once or not at all.
"""

from daywatches.joins import joined


def days_in(turn, first, begin, end):
    """How many days of the stretch leave first when divided by turn."""
    return (end - 1 - first) // turn - (begin - 1 - first) // turn


def within_stretch(pair, begin, end):
    """A pair (turn, first) with the same days of the stretch, None if it has none of them.

    For just one day it is one and the same pair, whatever the turn was: that with the length of the stretch as turn.
    """
    turn, first = pair
    day = begin + (first - begin) % turn
    if day >= end:
        return None
    if day + turn < end:
        return pair
    return (end - begin, day % (end - begin))


def joined_within(pair, one, begin, end):
    """A pair with the days of the stretch that this pair, one of within_stretch, and the watch both hold, or None."""
    turn, first = pair
    if turn < end - begin:
        met = joined(pair, one)
        return None if met is None else within_stretch(met, begin, end)
    # There is but one day, and no need to tell where the two meet again.
    day = begin + (first - begin) % turn
    return pair if day % one[0] == one[1] else None


def open_worths(lot, begin, end):
    """A dict of pairs (turn, first) and their worths, which tell the open days of the stretch as terms_days counts."""
    # At first all days are told. Each watch takes away what it has in common with what is told so far; the longest
    # ones go ahead, since the least is left of what they have in common.
    worths = {within_stretch((1, 0), begin, end): 1}
    for one in sorted(lot, reverse=True):
        for pair, worth in list(worths.items()):
            met = joined_within(pair, one, begin, end) if worth != 0 else None
            if met is not None:
                worths[met] = worths.get(met, 0) - worth
    return worths


def held_worths(lot, begin, end):
    """A dict of pairs (turn, first) and their worths, which tell the held days of the stretch as terms_days counts."""
    worths = {pair: -worth for pair, worth in open_worths(lot, begin, end).items()}
    all_days = within_stretch((1, 0), begin, end)
    worths[all_days] = worths[all_days] + 1
    return worths


def terms_days(terms, begin, end):
    """How many days of the stretch the terms tell: those of each pair (turn, first), times its worth."""
    return sum([worth * days_in(turn, first, begin, end) for turn, first, worth in terms])


def terms_within(terms, begin, end):
    """Those of the terms that have a day of the stretch."""
    return [(turn, first, worth) for turn, first, worth in terms if days_in(turn, first, begin, end) > 0]


def part_by_shares(terms, begin, end, count):
    """A part of the stretch in which the count-th of the days lies that the terms tell of it."""
    # Of days in a row each term has its share, but for less than a day more or less; and less than another day is
    # left out where the shares are told in parts of the whole length.
    length = end - begin
    share = sum([worth * (length // turn) for turn, _, worth in terms])
    if share <= 0:
        return (begin, end)
    more_or_less = 2 * sum([abs(worth) for _, _, worth in terms])
    low = begin - 1 + (count - more_or_less) * length // share
    high = begin + (count + more_or_less) * length // share
    return (max(begin, low), min(end, high))


def day_at(worths, begin, end, count):
    """The count-th of the days that the worths tell of the stretch; there are so many at least."""
    terms = [(turn, first, worth) for (turn, first), worth in worths.items() if worth != 0]
    low, high = part_by_shares(terms, begin, end, count)
    left = count - terms_days(terms, begin, low)
    while high - low > 1:
        terms = terms_within(terms, low, high)
        middle = (low + high) // 2
        told = terms_days(terms, low, middle)
        if told < left:
            low = middle
            left = left - told
        else:
            high = middle
    return low
