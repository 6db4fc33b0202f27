"""Split papers, which say that no day is open."""

from math import gcd

from daywatches.bounds import MAX_ROUND
from daywatches.covers import is_held
from daywatches.errors import TooLong
from daywatches.forms import is_pair, is_whole_number, round_of

HELD = "held"
SPLIT = "split"


def holds_all(one, size, rest):
    """Whether the watch holds all days that leave rest when divided by size."""
    turn, first = one
    return size % turn == 0 and rest % turn == first


def fewest_parts(lot, size, rest):
    """The least number of parts of these days of which one is held whole by a watch of the lot."""
    parts = []
    for turn, first in lot:
        common = gcd(turn, size)
        if (rest - first) % common == 0:
            parts.append(turn // common)
    return min(parts)


def paper_about(lot, size, rest):
    """A split paper about the days that leave rest when divided by size; none of them is open."""
    for index, one in enumerate(lot):
        if holds_all(one, size, rest):
            return (HELD, index)
    parts = fewest_parts(lot, size, rest)
    papers = [paper_about(lot, size * parts, rest + k * size) for k in range(parts)]
    return (SPLIT, parts, tuple(papers))


def split_paper(lot):
    """A split paper of the lot, None if a day is open."""
    whole = round_of(lot)
    if whole > MAX_ROUND:
        raise TooLong(whole)
    if not is_held(lot, 1):
        return None
    return paper_about(lot, 1, 0)


def is_held_paper(lot, value, size, rest):
    """Whether value is a right paper that says of these days that one watch holds them."""
    if not is_pair(value) or value[0] != HELD:
        return False
    index = value[1]
    return is_whole_number(index) and 0 <= index < len(lot) and holds_all(lot[index], size, rest)


def is_split(value):
    """Whether value is a tuple that says into how many parts days are split, with as many papers."""
    if not isinstance(value, tuple) or len(value) != 3:
        return False
    word, parts, papers = value
    if word != SPLIT or not is_whole_number(parts) or parts < 2:
        return False
    return isinstance(papers, tuple) and len(papers) == parts


def paper_holds(lot, value):
    """Whether value is a split paper of the lot."""
    waiting = [(value, 1, 0)]
    while waiting:
        paper, size, rest = waiting.pop()
        if is_held_paper(lot, paper, size, rest):
            continue
        if not is_split(paper):
            return False
        _, parts, papers = paper
        waiting.extend([(part, size * parts, rest + k * size) for k, part in enumerate(papers)])
    return True


def paper_size(value):
    """How many times "held" stands in a split paper."""
    times = 0
    waiting = [value]
    while waiting:
        paper = waiting.pop()
        if paper[0] == HELD:
            times += 1
        else:
            waiting.extend(list(paper[2]))
    return times
