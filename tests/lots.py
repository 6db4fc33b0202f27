"""Lots for the tests, and what is true of lots, counted slowly, day by day."""

import itertools
import math
import random
import time

from daywatches.bounds import MAX_TURN, MAX_WATCHES

T = ((2, 0), (3, 0), (4, 1), (6, 5), (12, 7))
E = ((2, 0), (4, 1), (4, 3))

# Each watch holds every second one of the days that those ahead of it leave open.
DOUBLED = tuple((2 ** (k + 1), 2 ** k - 1) for k in range(MAX_WATCHES))
LAST_OPEN = DOUBLED[:-1] + ((1024, 1023),)
NONE_OPEN = DOUBLED[:-1] + ((512, 511),)

# Turns without a common divisor, so the round has 120 digits.
COPRIME_TURNS = []
_turn = MAX_TURN
while len(COPRIME_TURNS) < MAX_WATCHES:
    if all(math.gcd(_turn, other) == 1 for other in COPRIME_TURNS):
        COPRIME_TURNS.append(_turn)
    _turn -= 1
COPRIME = tuple((turn, turn * (k + 3) // 17) for k, turn in enumerate(COPRIME_TURNS))
PRIMES = tuple((turn, turn // 2) for turn in (2, 3, 5, 7, 11, 13, 17, 19, 23, 29))
HALVES = ((2, 0), (2, 1)) + COPRIME[:8]

EDGES = [
    (), ((1, 0),), ((1, 0),) * MAX_WATCHES, ((MAX_TURN, 0),), ((MAX_TURN, MAX_TURN - 1),),
    ((MAX_TURN, 7),) * MAX_WATCHES, ((2, 1), (2, 1)), ((2, 0), (2, 1)), ((5, 4), (7, 6), (11, 0)), T, E,
]
LONG = [DOUBLED, LAST_OPEN, NONE_OPEN, COPRIME, PRIMES, HALVES]

# Days of 18 digits, around 0, and longer ones such as held_at returns.
FAR_DAYS = [10 ** 18 - 1, 1 - 10 ** 18, 10 ** 17 + 3, 10 ** 12 * (10 ** 18 - 1) + 5, -(10 ** 30)]


def small_lots(many=150, greatest=10, most=MAX_WATCHES, seed=7):
    """Lots whose rounds are short, the same at each run."""
    source = random.Random(seed)
    lots = [(), ((1, 0),), ((1, 0), (1, 0)), ((3, 1),) * most, ((2, 0), (2, 1)), ((2, 0), (3, 0), (6, 1))]
    while len(lots) < many:
        turns = [source.randint(1 + (len(lots) % 3 > 0), greatest) for _ in range(source.randint(0, most))]
        lots.append(tuple((turn, source.randrange(turn)) for turn in turns))
    return lots


def slow_round(lot):
    """The round of the lot."""
    return math.lcm(*[turn for turn, _ in lot])


def slow_holders(lot, day):
    """The indexes of the watches that hold the day."""
    return tuple(index for index in range(len(lot)) if (day - lot[index][1]) % lot[index][0] == 0)


def slow_tally(lot, day):
    """How many watches hold the day."""
    return len(slow_holders(lot, day))


def slow_tallies(lot, whole=None):
    """The tallies of the days of a round, or of so many days, from 0 on."""
    return [slow_tally(lot, day) for day in range(slow_round(lot) if whole is None else whole)]


def slow_counts(lot, begin, end):
    """How many days of the stretch are held by just so many."""
    told = [0] * (len(lot) + 1)
    for day in range(begin, end):
        told[slow_tally(lot, day)] += 1
    return tuple(told)


def slow_day_at(lot, day, count, is_open):
    """The count-th open or held day from day on, None if a round has none."""
    places = [k for k in range(slow_round(lot)) if (slow_tally(lot, day + k) == 0) == is_open]
    if not places:
        return None
    rounds, place = divmod(count - 1, len(places))
    return day + rounds * slow_round(lot) + places[place]


def kept(lot, some):
    """The lot of the watches with these indexes."""
    return tuple(lot[index] for index in some)


def slow_split(lot, index, parts):
    """The lot with the watch split."""
    turn, first = lot[index]
    return lot[:index] + tuple((turn * parts, first + k * turn) for k in range(parts)) + lot[index + 1:]


def grown_lots(many=60, most=MAX_WATCHES, greatest=MAX_TURN, seed=5):
    """Grown lots with as many watches as fit, in any order, the same at each run."""
    source = random.Random(seed)
    lots = [((1, 0),)]
    while len(lots) < many:
        lot = ((1, 0),)
        for _ in range(source.randint(1, 6)):
            index, parts = source.randrange(len(lot)), source.choice([2, 2, 2, 3, 3, 4, 5, 6, 7, 10])
            if len(lot) - 1 + parts <= most and lot[index][0] * parts <= greatest:
                lot = slow_split(lot, index, parts)
        lots.append(tuple(source.sample(lot, len(lot))))
    return lots


def choices(items):
    """All choices of some of the items, in order."""
    items = list(items)
    for many in range(len(items) + 1):
        yield from itertools.combinations(items, many)


class Clock:
    """Fails the test if what is done under it takes long."""

    def __init__(self, test, seconds=3):
        self.test = test
        self.seconds = seconds

    def __enter__(self):
        self.begin = time.process_time()
        return self

    def __exit__(self, kind, value, trace):
        if kind is None:
            self.test.assertLess(time.process_time() - self.begin, self.seconds)
