"""What can be left out of a lot, so that it holds the same days, or leaves no day open."""

from daywatches.bounds import MAX_SEEN
from daywatches.covers import day_out, refuse_open
from daywatches.days import enough_days, holders
from daywatches.limits import refuse_many


def lone_day(lot, index):
    """A day that this watch alone holds, None if there is none."""
    return day_out((lot[index],), lot[:index] + lot[index + 1:])


def needless(lot):
    """The indexes of the watches without which the lot holds the same days."""
    return tuple([index for index in range(len(lot)) if lone_day(lot, index) is None])


def chosen(lot, some):
    """The lot of the watches with these indexes."""
    return tuple([lot[index] for index in some])


def trimmed(lot):
    """The indexes that stay if, from the last watch to the first one, each that is needless is left out."""
    left = tuple(range(len(lot)))
    # The index of a watch is its place among those left, as none ahead of it has been left out yet.
    for index in reversed(range(len(lot))):
        if lone_day(chosen(lot, left), index) is None:
            left = left[:index] + left[index + 1:]
    return left


def trimmed_lot(lot):
    """The lot of the watches that stay if it is trimmed."""
    return chosen(lot, trimmed(lot))


# Below, a set of watches is told by one integer, in which the bit with the number of each index is set.


def indexes_of(bits):
    """The indexes that are told by the bits."""
    return tuple([index for index in range(bits.bit_length()) if bits >> index & 1 == 1])


def least_ones(many):
    """Those of the sets that have no other one as a part."""
    unlike = sorted(set(many))
    return [bits for bits in unlike if not any([part != bits and part & bits == part for part in unlike])]


def breach_bits(lot):
    """The least breaches of the lot, as bits."""
    # Some day is open without some watches exactly if they are all that hold a day, or more.
    held_by = [holders(lot, day) for day in range(enough_days(lot))]
    return least_ones([sum([1 << index for index in some]) for some in held_by])


def refuse_unfit(lot):
    """Raise the error for a lot that leaves a day open or has too many watches."""
    refuse_open(lot)
    refuse_many(len(lot), MAX_SEEN)


def least_rests(lot):
    """All least rests of the lot."""
    refuse_unfit(lot)
    breaches = breach_bits(lot)
    rests = [bits for bits in range(1 << len(lot)) if all([bits & breach != 0 for breach in breaches])]
    return tuple(sorted([indexes_of(bits) for bits in least_ones(rests)]))


def least_breaches(lot):
    """All least breaches of the lot."""
    refuse_unfit(lot)
    return tuple(sorted([indexes_of(bits) for bits in breach_bits(lot)]))


def fewest_rest(lot):
    """The first of those least rests that have the fewest watches."""
    return min(least_rests(lot), key=len)
