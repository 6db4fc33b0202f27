"""Boards that are worked by lines of text."""

from daywatches.bounds import HISTORY
from daywatches.covers import open_day
from daywatches.days import next_open, tally
from daywatches.errors import WatchError
from daywatches.forms import DAY_DIGITS
from daywatches.texts import lot_text, number_of

# How many integers stand behind each first word.
NUMBERS = {"add": 2, "drop": 1, "move": 2, "split": 2, "undo": 0, "lot": 0, "open": 0, "tally": 1, "next": 1}


def integer_of(word):
    """The integer of at most 18 digits with this decimal, None if there is none."""
    if not word.startswith("-"):
        return number_of(word, DAY_DIGITS)
    number = number_of(word[1:], DAY_DIGITS)
    if number is None or number == 0:
        return None
    return -number


def said(line):
    """The first word of the line and the integers behind it, None if it is no right line."""
    if not isinstance(line, str):
        return None
    words = line.split(" ")
    numbers = [integer_of(word) for word in words[1:]]
    if words[0] not in NUMBERS or len(numbers) != NUMBERS[words[0]] or None in numbers:
        return None
    return (words[0], numbers)


def edited(board, word, numbers):
    """The new version of the board, when the edit with this word, or undo, is done."""
    if word == "add":
        return board.add(numbers[0], numbers[1])
    if word == "drop":
        return board.drop(numbers[0])
    if word == "move":
        return board.move(numbers[0], numbers[1])
    if word == "split":
        return board.split(numbers[0], numbers[1])
    return board.undo()


def day_answer(day):
    """The answer that tells a day, or that there is none."""
    if day is None:
        return "none"
    return f"day {day}"


def answer_of(board, word, numbers):
    """The answer to what was said with this word."""
    if word == "lot":
        return lot_text(board.lot)
    if word == "open":
        return day_answer(open_day(board.lot, 1))
    if word == "tally":
        return f"held {tally(board.lot, numbers[0])}"
    if word == "next":
        return day_answer(next_open(board.lot, numbers[0]))
    return f"ok {edited(board, word, numbers)}"


def answer_to(board, line):
    """The answer to the line, whatever it is."""
    told = said(line)
    if told is None:
        return "what"
    word, numbers = told
    try:
        return answer_of(board, word, numbers)
    except WatchError as error:
        return "no " + type(error).__name__


class Shell:
    """A board that is worked by lines of text, and what was said of late."""

    def __init__(self, board):
        self._board = board
        self._history = ()

    @property
    def board(self):
        """The board that the shell works on."""
        return self._board

    @property
    def history(self):
        """The last pairs (line, answer) of all that was said, line None for what is no string."""
        return self._history

    def say(self, line):
        """Do what the line tells, and return the answer."""
        answer = answer_to(self._board, line)
        told = line if isinstance(line, str) else None
        self._history = (self._history + ((told, answer),))[-HISTORY:]
        return answer
