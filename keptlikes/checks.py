"""What arguments may be: questions about them, and checks that raise errors."""

from keptlikes.errors import (
    InvalidCount,
    InvalidDeeds,
    InvalidNear,
    InvalidOrder,
    InvalidPairs,
    InvalidPlaces,
    InvalidReach,
    InvalidRows,
    InvalidSet,
    InvalidThing,
    InvalidWords,
    InvalidWorth,
    InvalidWorths,
)
from keptlikes.limits import MOST_LETTERS, MOST_ROWS, MOST_THINGS


def is_integer(value):
    """Whether the value is an int that is not a bool."""
    return isinstance(value, int) and not isinstance(value, bool)


def is_thing(value, count):
    """Whether the value is one of the things from 0 to count - 1."""
    return is_integer(value) and 0 <= value < count


def is_tuple_of_things(value, count):
    """Whether the value is a tuple of such things, in any sequence."""
    return isinstance(value, tuple) and all([is_thing(thing, count) for thing in value])


def is_pair(value, count):
    """Whether the value is a pair (i, j) of such things with i < j."""
    return is_tuple_of_things(value, count) and len(value) == 2 and value[0] < value[1]


def is_ascending(value, count):
    """Whether the value is an ascending tuple of different things, or of none."""
    if not is_tuple_of_things(value, count):
        return False
    return all([low < high for low, high in zip(value, value[1:])])


def is_set(value, count):
    """Whether the value is an ascending tuple of one or more different things."""
    return is_ascending(value, count) and len(value) > 0


def is_order(value, count):
    """Whether the value is a tuple of all things, each once."""
    return is_tuple_of_things(value, count) and sorted(value) == list(range(count))


def is_row(value, count):
    """Whether the value is a pair of an order and a set of things, which may be empty."""
    if not isinstance(value, tuple) or len(value) != 2:
        return False
    return is_order(value[0], count) and is_ascending(value[1], count)


def is_deed(value):
    """Whether the value is a tuple ("arrive", worth, near), with anything as worth and near."""
    if not isinstance(value, tuple) or len(value) != 3:
        return False
    return isinstance(value[0], str) and value[0] == "arrive"


def is_short_word(value):
    """Whether the value is a string of a permitted length."""
    return isinstance(value, str) and len(value) <= MOST_LETTERS


def check_worths(worths):
    """Raise InvalidWorths unless these are the worths of a heap."""
    if not isinstance(worths, tuple) or not 1 <= len(worths) <= MOST_THINGS:
        raise InvalidWorths(None)
    for place, worth in enumerate(worths):
        if not is_integer(worth):
            raise InvalidWorths(place)


def check_pairs(pairs, count):
    """Raise InvalidPairs unless these are the pairs of a heap of so many things."""
    if not isinstance(pairs, tuple):
        raise InvalidPairs(None)
    for place, pair in enumerate(pairs):
        # The pair before is known to be right here, so that the two can be compared.
        if not is_pair(pair, count) or (place > 0 and pair <= pairs[place - 1]):
            raise InvalidPairs(place)


def check_places(places, count):
    """Raise InvalidPlaces unless these are places of so many things."""
    if not isinstance(places, tuple) or len(places) != count:
        raise InvalidPlaces(None)
    for at, place in enumerate(places):
        if not is_integer(place):
            raise InvalidPlaces(at)


def check_words(words, count):
    """Raise InvalidWords unless these are words of so many things."""
    if not isinstance(words, tuple) or len(words) != count:
        raise InvalidWords(None)
    for place, word in enumerate(words):
        if not is_short_word(word):
            raise InvalidWords(place)


def check_reach(reach):
    """Raise InvalidReach unless this is an integer from 0 upwards."""
    if not is_integer(reach) or reach < 0:
        raise InvalidReach(reach)


def check_thing(thing, count):
    """Raise InvalidThing unless this is one of so many things."""
    if not is_thing(thing, count):
        raise InvalidThing(thing)


def check_set(things, count):
    """Raise InvalidSet unless this is an ascending tuple of some of so many things."""
    if not is_set(things, count):
        raise InvalidSet(things)


def check_order(order, count):
    """Raise InvalidOrder unless this is an order of so many things."""
    if not is_order(order, count):
        raise InvalidOrder(order)


def check_count(count):
    """Raise InvalidCount unless this is a number of things that a heap may have."""
    if not is_integer(count) or not 1 <= count <= MOST_THINGS:
        raise InvalidCount(count)


def check_rows(rows, count):
    """Raise InvalidRows unless these are rows of so many things."""
    if not isinstance(rows, tuple) or len(rows) > MOST_ROWS:
        raise InvalidRows(None)
    for place, row in enumerate(rows):
        if not is_row(row, count):
            raise InvalidRows(place)


def check_worth(worth):
    """Raise InvalidWorth unless this is an integer."""
    if not is_integer(worth):
        raise InvalidWorth(worth)


def check_near(near, count):
    """Raise InvalidNear unless this is an ascending tuple of things, so many of which have arrived."""
    if not isinstance(near, tuple):
        raise InvalidNear(None)
    for place, thing in enumerate(near):
        # The thing before is known to be right here, so that the two can be compared.
        if not is_thing(thing, count) or (place > 0 and thing <= near[place - 1]):
            raise InvalidNear(place)


def check_deeds(deeds):
    """Raise InvalidDeeds unless these are deeds; worth and near are not looked at."""
    for place, deed in enumerate(deeds):
        if not is_deed(deed):
            raise InvalidDeeds(place)
