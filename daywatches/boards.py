"""Boards: lots that are edited, and edits that are taken back."""

from daywatches.bounds import BATCH, MAX_EDITS, MAX_WATCHES
from daywatches.covers import is_held, refuse_open
from daywatches.days import tally
from daywatches.errors import (
    BadBatch, BadLot, Busy, NoDay, NoParts, NothingToUndo, NoTurn, NoVersion, NoWatch, Rejected, TooManyEdits,
    WatchError,
)
from daywatches.exacts import split
from daywatches.forms import is_day, is_turn, is_whole_number, lot_error, watch
from daywatches.limits import refuse_many
from daywatches.texts import lot_text


def is_index(value, many):
    """Whether value is an integer from 0 on below many."""
    return is_whole_number(value) and 0 <= value < many


def refuse_no_watch(lot, index):
    """Raise NoWatch if the lot has no watch with this index."""
    if not is_index(index, len(lot)):
        raise NoWatch(index)


def refuse_no_day(day):
    """Raise NoDay if day is no integer of at most 18 digits."""
    if not is_day(day):
        raise NoDay(day)


def with_added(lot, turn, day):
    """The lot with the watch with this turn that holds the day behind the others."""
    if not is_turn(turn):
        raise NoTurn(turn)
    refuse_no_day(day)
    refuse_many(len(lot) + 1, MAX_WATCHES)
    return lot + (watch(turn, day),)


def with_dropped(lot, index):
    """The lot without the watch."""
    refuse_no_watch(lot, index)
    return lot[:index] + lot[index + 1:]


def with_moved(lot, index, day):
    """The lot in which the watch holds the day."""
    refuse_no_watch(lot, index)
    refuse_no_day(day)
    return lot[:index] + (watch(lot[index][0], day),) + lot[index + 1:]


def with_split(lot, index, parts):
    """The lot with the watch split."""
    refuse_no_watch(lot, index)
    if not is_whole_number(parts) or not 2 <= parts <= MAX_WATCHES:
        raise NoParts(parts)
    return split(lot, index, parts)


class Board:
    """A lot that is edited."""

    def __init__(self, lot):
        error = lot_error(lot)
        if error is not None:
            raise BadLot(error)
        self.refuse(lot)
        self._lot = lot
        # The lots ahead of each edit that stands, the oldest one first.
        self._past = ()
        self._busy = False

    @property
    def lot(self):
        """The lot as it is now."""
        return self._lot

    @property
    def version(self):
        """How many edits stand."""
        return len(self._past)

    def __len__(self):
        return len(self._lot)

    def __getitem__(self, index):
        refuse_no_watch(self._lot, index)
        return self._lot[index]

    def __contains__(self, value):
        return is_day(value) and tally(self._lot, value) > 0

    def __iter__(self):
        return iter(self._lot)

    def __bool__(self):
        return bool(is_held(self._lot, 1))

    def __str__(self):
        return str(lot_text(self._lot))

    def __eq__(self, other):
        return isinstance(other, Board) and self._lot == other._lot

    def refuse(self, lot):
        """Raise an error if the board may not have this lot; any lot will do here."""
        pass

    def fresh(self):
        """A board of the same class with the same lot, without edits."""
        return Board(self._lot)

    def refuse_edits(self):
        """Raise the error that goes ahead of all else when an edit begins."""
        if self._busy:
            raise Busy()
        if len(self._past) >= MAX_EDITS:
            raise TooManyEdits()

    def go_on(self, lot):
        """Have this lot from now on, and return the new version."""
        self.refuse(lot)
        self._past = self._past + (self._lot,)
        self._lot = lot
        return len(self._past)

    def add(self, turn, day):
        """Put the watch with this turn that holds the day behind the others."""
        self.refuse_edits()
        return self.go_on(with_added(self._lot, turn, day))

    def drop(self, index):
        """Leave the watch out."""
        self.refuse_edits()
        return self.go_on(with_dropped(self._lot, index))

    def move(self, index, day):
        """Give the watch another first, so that it holds the day."""
        self.refuse_edits()
        return self.go_on(with_moved(self._lot, index, day))

    def split(self, index, parts):
        """Put so many watches, into which the watch is split, in its place."""
        self.refuse_edits()
        return self.go_on(with_split(self._lot, index, parts))

    def undo(self):
        """Take back the last edit that stands, and return the version then."""
        if self._busy:
            raise Busy()
        if len(self._past) == 0:
            raise NothingToUndo()
        self._lot = self._past[-1]
        self._past = self._past[:-1]
        return len(self._past)

    def at(self, version):
        """The lot when so many edits stood, of those that stand now."""
        if not is_index(version, len(self._past) + 1):
            raise NoVersion(version)
        return (self._past + (self._lot,))[version]

    def copy(self):
        """A board of the same class, with the same lot and edits that stand, that goes on by itself."""
        made = self.fresh()
        made._past = self._past
        return made

    def attempt(self, batch, on_step):
        """Do all edits of the batch, calling on_step with the board behind each of them, or none."""
        if self._busy:
            raise Busy()
        if not isinstance(batch, (list, tuple)) or len(batch) > BATCH:
            raise BadBatch()
        lot, past = self._lot, self._past
        try:
            for index, item in enumerate(tuple(batch)):
                self.do_item(index, item)
                if on_step is not None:
                    self._busy = True
                    on_step(self)
                    self._busy = False
            lot, past = self._lot, self._past
        finally:
            self._busy = False
            self._lot, self._past = lot, past
        return len(self._past)

    def do_item(self, index, item):
        """Do the edit of this item of a batch."""
        try:
            done = self.edit(item)
        except WatchError:
            raise Rejected(index) from None
        if not done:
            raise Rejected(index)

    def edit(self, item):
        """Do the edit that the item tells; returns False if it tells none."""
        if not isinstance(item, tuple):
            return False
        if len(item) == 2 and item[0] == "drop":
            self.drop(item[1])
        elif len(item) == 3 and item[0] == "add":
            self.add(item[1], item[2])
        elif len(item) == 3 and item[0] == "move":
            self.move(item[1], item[2])
        elif len(item) == 3 and item[0] == "split":
            self.split(item[1], item[2])
        else:
            return False
        return True


class HeldBoard(Board):
    """A board whose lot never leaves a day open."""

    def refuse(self, lot):
        """Raise Open if the lot leaves a day open."""
        refuse_open(lot)

    def fresh(self):
        """A held board with the same lot, without edits."""
        return HeldBoard(self._lot)
