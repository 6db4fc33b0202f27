"""Firsts that are sought, so that a lot leaves no day open."""

from daywatches.bounds import MAX_SEEN
from daywatches.covers import is_held
from daywatches.days import enough_days
from daywatches.forms import is_whole_number, shares_sum, turns_of
from daywatches.limits import refuse_many

# Below, some of the first days from 0 on are told by one integer, in which the bit with the number of each is set.


def held_bits(one, many):
    """Those of the first so many days that the watch holds."""
    turn, first = one
    return sum([1 << day for day in range(first, many, turn)])


def bits_by_first(turns, many):
    """For each turn the list of what watches with this turn hold of the first so many days, by their firsts."""
    return {turn: [held_bits((turn, first), many) for first in range(turn)] for turn in turns}


def open_bits(lot, many):
    """Those of the first so many days that are open."""
    left = (1 << many) - 1
    for one in lot:
        left = left & ~held_bits(one, many)
    return left


def can_hold(left, turns, many):
    """Whether watches with these turns hold enough of so many days for those that are left, by number alone."""
    bits = f"{left:b}"
    return bits.count("1") <= sum([(many - 1) // turn + 1 for turn in turns])


def unlike_places(items):
    """The place of each item that stands nowhere ahead of it."""
    return [place for place, item in enumerate(items) if item not in items[:place]]


def firsts_for(left, turns, many, bits):
    """Firsts for the turns that hold the days that are left, None if there are none.

    left stands for some of the first so many days; bits are those of bits_by_first.
    """
    if left == 0:
        return (0,) * len(turns)
    if not can_hold(left, turns, many):
        return None
    # Some watch has to hold the first day that is left, whatever the others do.
    day = (left & -left).bit_length() - 1
    for place in unlike_places(turns):
        first = day % turns[place]
        others = turns[:place] + turns[place + 1:]
        found = firsts_for(left & ~bits[turns[place]][first], others, many, bits)
        if found is not None:
            return found[:place] + (first,) + found[place:]
    return None


def prime_power_of(number):
    """The prime of which the number, from 2 on, is a power; None if it is no such power."""
    prime = min([less for less in range(2, number + 1) if number % less == 0])
    while number % prime == 0:
        number = number // prime
    return prime if number == 1 else None


def is_of_use(turn, turns):
    """Whether a watch with this turn may be needed, beside the others with these turns, to leave no day open."""
    # Say a power of a prime divides the turns of fewer watches than the prime tells, and the others leave a day
    # open. Take as a step the round of all, less so many factors of this prime that the power does not divide it
    # any more. The turns of the others divide it, so they leave all days open that are steps away from that day.
    # Of as many of these in a row as the prime tells each of the few holds one at most, so one is open all the same.
    for power in range(2, turn + 1):
        if turn % power == 0:
            prime = prime_power_of(power)
            if prime is not None and len([other for other in turns if other % power == 0]) < prime:
                return False
    return True


def places_of_use(lot, turns):
    """The indexes of those of the turns that may be needed to close the lot."""
    places = tuple(range(len(turns)))
    left_out = True
    while left_out:
        beside = turns_of(lot) + tuple([turns[place] for place in places])
        fewer = tuple([place for place in places if is_of_use(turns[place], beside)])
        left_out = fewer != places
        places = fewer
    return places


def refuse_many_items(lot, turns):
    """Raise TooMany if lot and turns have too many items together."""
    refuse_many(len(lot) + len(turns), MAX_SEEN)


def closing(lot, turns):
    """Firsts that close the lot, None if there are none."""
    refuse_many_items(lot, turns)
    many = enough_days(lot + turns)
    places = places_of_use(lot, turns)
    used = tuple([turns[place] for place in places])
    found = firsts_for(open_bits(lot, many), used, many, bits_by_first(used, many))
    if found is None:
        return None
    return tuple([found[places.index(place)] if place in places else 0 for place in range(len(turns))])


def are_firsts(turns, value):
    """Whether value is firsts for the turns."""
    if not isinstance(value, tuple) or len(value) != len(turns):
        return False
    return all([is_whole_number(first) and 0 <= first < turn for turn, first in zip(turns, value)])


def watches_of(turns, firsts):
    """The watches with these turns and firsts."""
    return tuple(zip(turns, firsts))


def firsts_close(lot, turns, value):
    """Whether value is firsts that close the lot."""
    refuse_many_items(lot, turns)
    return are_firsts(turns, value) and is_held(lot + watches_of(turns, value), 1)


def exact_firsts(turns):
    """Firsts such that the watches are an exact lot, None if there are none."""
    refuse_many_items((), turns)
    # Where the shares come to 1 and no day is open, none is left to be held twice.
    if shares_sum(watches_of(turns, (0,) * len(turns))) != (1, 1):
        return None
    return closing((), turns)


def choices_of(places):
    """All ascending tuples of some of the places; those with fewer items, then lesser ones, go ahead."""
    some = [()]
    for place in places:
        some = some + [chosen + (place,) for chosen in some]
    return sorted(some, key=lambda chosen: (len(chosen), chosen))


def least_closing(lot, turns):
    """The first of the tuples with the fewest indexes of turns that close the lot, None if there are none."""
    if closing(lot, turns) is None:
        return None
    for some in choices_of(places_of_use(lot, turns)):
        if closing(lot, tuple([turns[place] for place in some])) is not None:
            return some
    return None
