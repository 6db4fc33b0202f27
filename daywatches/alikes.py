"""Little lots that hold each day equally often."""

from daywatches.bounds import MAX_LITTLE, MAX_WATCHES
from daywatches.days import tallies_from
from daywatches.exacts import parts_of
from daywatches.forms import fraction, round_of, turns_of, watch
from daywatches.limits import refuse_long


def all_fractions(lot):
    """The fractions of the lot, which may be longer than a lot."""
    # All are told in parts of one round, as integers, so that equal ones are seen to be equal.
    whole = round_of(lot)
    tops = sorted(set([whole // turn * k for turn in turns_of(lot) for k in range(turn)]))
    return tuple([fraction(top, whole) for top in tops])


def fractions_of(lot):
    """The fractions of the lot, in ascending order of what they are worth."""
    refuse_long(lot, MAX_LITTLE)
    return all_fractions(lot)


def parting_day(one, other):
    """The least day from 0 on at which the tallies are not the same, None if there is none."""
    refuse_long(one + other, MAX_LITTLE)
    many = len(all_fractions(one + other))
    for day, (mine, yours) in enumerate(zip(tallies_from(one, 0, many), tallies_from(other, 0, many))):
        if mine != yours:
            return day
    return None


def alike(one, other):
    """Whether on each day both tallies are the same."""
    return parting_day(one, other) is None


def is_prime(number):
    """Whether the number, from 2 on, is a prime."""
    return all([number % less != 0 for less in range(2, number)])


def own_part(told, turn):
    """What of the integers told for each rest by the turn does not come round after a part of the turn."""
    # What comes round after a shorter turn does so after the turn divided by one of its primes, too, and is
    # taken away by that difference.
    part = told
    for prime in range(2, turn + 1):
        if turn % prime == 0 and is_prime(prime):
            step = turn // prime
            part = [part[rest] - part[(rest + step) % turn] for rest in range(turn)]
    return part


def first_told(told, turn):
    """The first of the one watch with this turn that the tallies tell, None if they tell none.

    The tallies are those of a round, and come of watches with unlike turns, none of them longer than this one.
    """
    part = own_part([sum(told[rest::turn]) for rest in range(turn)], turn)
    if not any(part):
        return None
    for first in range(turn):
        alone = [0] * turn
        alone[first] = len(told) // turn
        if own_part(alone, turn) == part:
            return first
    return None


def told_back(tallies):
    """The lot with these tallies in its round, in ascending order of turns, no two of one turn; None if there is none.

    Its turns are at most MAX_LITTLE, and divide the number of tallies.
    """
    left = list(tallies)
    lot = []
    for turn in reversed(range(1, MAX_LITTLE + 1)):
        first = first_told(left, turn) if len(left) % turn == 0 else None
        if first is not None:
            lot.append((turn, first))
            for day in range(first, len(left), turn):
                left[day] = left[day] - 1
    # Whatever was taken for a watch on the way, the lot is right exactly if nothing is left.
    if any(left) or len(lot) > MAX_WATCHES:
        return None
    return tuple(sorted(lot))


def merging(lot):
    """A watch and the places of those that a split would make of it, None if nothing can be merged."""
    for turn, first in lot:
        for parts in range(2, len(lot) + 1):
            one = watch(turn // parts, first) if turn % parts == 0 else None
            if one is not None and all([part in lot for part in parts_of(one, parts)]):
                return (one, [lot.index(part) for part in parts_of(one, parts)])
    return None


def merged(lot):
    """A lot that comes of this one by merging as long as something can be merged."""
    refuse_long(lot, MAX_LITTLE)
    found = merging(lot)
    while found is not None:
        one, places = found
        first_place = min(places)
        lot = lot[:first_place] + (one,) + tuple([
            lot[place] for place in range(first_place + 1, len(lot)) if place not in places
        ])
        found = merging(lot)
    return lot


def is_merged(lot):
    """Whether nothing of the lot can be merged."""
    refuse_long(lot, MAX_LITTLE)
    return merging(lot) is None
