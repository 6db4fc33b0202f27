"""What is refused because it is too many or too long."""

from daywatches.errors import TooLong, TooMany
from daywatches.forms import turns_of


def refuse_many(many, limit):
    """Raise TooMany if there are more than the limit."""
    if many > limit:
        raise TooMany(limit)


def refuse_long(lot, limit):
    """Raise TooLong with the first turn of the lot that is longer than the limit."""
    for turn in turns_of(lot):
        if turn > limit:
            raise TooLong(turn)
