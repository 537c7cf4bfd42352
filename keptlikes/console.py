"""A live heap that answers lines."""

from keptlikes.errors import InvalidLine, InvalidNear, NothingToUndo, TooMany
from keptlikes.live import LiveHeap
from keptlikes.orders import is_free
from keptlikes.texts import things_text

MOST_DIGITS = 20
REFUSED = "refused"


def is_number(text):
    """Whether the text is a number without a sign, as str writes it, of at most 20 digits."""
    # Digits of other scripts are digits for isdigit, too.
    if not text.isascii() or not text.isdigit() or len(text) > MOST_DIGITS:
        return False
    return text == "0" or not text.startswith("0")


def is_integer_text(text):
    """Whether the text is an integer as str writes it, of at most 20 digits."""
    return is_number(text.removeprefix("-")) and text != "-0"


def read_arrival(line):
    """The worth and the near things of a line that lets a thing arrive, None for another line."""
    words = line.split(" ")
    if words[0] != "add" or len(words) not in (2, 3) or not is_integer_text(words[1]):
        return None
    if len(words) == 2:
        return int(words[1]), ()
    numbers = words[2].split(",")
    if not all([is_number(number) for number in numbers]):
        return None
    return int(words[1]), tuple([int(number) for number in numbers])


class Console:
    """It has a live heap of its own and answers lines with it."""

    def __init__(self, way):
        self._live = LiveHeap(way)

    def say(self, line):
        """The answer to a line."""
        if not isinstance(line, str):
            raise InvalidLine(line)
        if line == "undo":
            return self._undo()
        if line == "kept":
            return self._kept_text()
        if line == "free":
            return self._free_text()
        arrival = read_arrival(line)
        if arrival is None:
            raise InvalidLine(line)
        return self._add(arrival[0], arrival[1])

    def _add(self, worth, near):
        try:
            self._live.arrive(worth, near)
        except (InvalidNear, TooMany):
            return REFUSED
        return self._kept_text()

    def _undo(self):
        try:
            self._live.undo()
        except NothingToUndo:
            return REFUSED
        return self._kept_text()

    def _kept_text(self):
        if not self._live.kept:
            return "-"
        return things_text(self._live.kept)

    def _free_text(self):
        if self._live.heap is None or is_free(self._live.heap, self._live.way):
            return "yes"
        return "no"
