"""The errors of the package."""

# The fields may be values of any size and depth, so no error writes them into a message of its own.


class WatchError(ValueError):
    """What all errors of the package are."""


class BadBatch(WatchError):
    """The batch is no list or tuple, or has too many items."""


class BadLot(WatchError):
    """The value is no lot; error is what lot_error tells of it."""

    def __init__(self, error):
        self.error = error


class BadText(WatchError):
    """The value is no text of a lot; place is the number of the wrong word, or None."""

    def __init__(self, place):
        self.place = place


class Busy(WatchError):
    """The board may not be edited while on_step runs."""


class NoDay(WatchError):
    """What is given is no day."""

    def __init__(self, given):
        self.given = given


class NoParts(WatchError):
    """What is given is no number of parts that a watch can be split into."""

    def __init__(self, given):
        self.given = given


class NothingToUndo(WatchError):
    """No edit stands that could be taken back."""


class NoTurn(WatchError):
    """What is given is no turn."""

    def __init__(self, given):
        self.given = given


class NoVersion(WatchError):
    """What is given is no version of the board."""

    def __init__(self, given):
        self.given = given


class NoWatch(WatchError):
    """What is given is no index of a watch."""

    def __init__(self, given):
        self.given = given


class Open(WatchError):
    """No watch holds the day."""

    def __init__(self, day):
        self.day = day


class Rejected(WatchError):
    """The item of the batch at the index could not be done."""

    def __init__(self, index):
        self.index = index


class TooLong(WatchError):
    """The turn, or the round, is too long."""

    def __init__(self, turn):
        self.turn = turn


class TooMany(WatchError):
    """There are, or would be, more watches than the limit."""

    def __init__(self, limit):
        self.limit = limit


class TooManyEdits(WatchError):
    """As many edits stand as may stand."""
