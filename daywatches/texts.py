"""Lots as texts."""

from daywatches.bounds import MAX_TURN, MAX_WATCHES
from daywatches.errors import BadText
from daywatches.forms import watch_error

NO_WATCHES = "none"


def lot_text(lot):
    """The text of the lot."""
    if len(lot) == 0:
        return NO_WATCHES
    return " ".join([f"{turn}:{first}" for turn, first in lot])


def number_of(word, most):
    """The integer from 0 on with this decimal of at most so many digits, None if there is none."""
    # isdigit also takes digits beyond ASCII, and int refuses very long words.
    if not word.isascii() or not word.isdigit() or len(word) > most:
        return None
    number = int(word)
    if str(number) != word:
        return None
    return number


def watch_of(word):
    """The watch with this text, None if there is none."""
    turn_word, _, first_word = word.partition(":")
    most = len(str(MAX_TURN))
    made = (number_of(turn_word, most), number_of(first_word, most))
    if watch_error(made) is not None:
        return None
    return made


def parse_lot(value):
    """The lot with this text."""
    if not isinstance(value, str):
        raise BadText(None)
    if value == NO_WATCHES:
        return ()
    watches = []
    for place, word in enumerate(value.split(" ")):
        made = watch_of(word)
        if made is None or place >= MAX_WATCHES:
            raise BadText(place)
        watches.append(made)
    return tuple(watches)
