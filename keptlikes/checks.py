"""What arguments may be: questions about them, and checks that raise errors."""

from keptlikes.errors import (
    InvalidOrder,
    InvalidPairs,
    InvalidPlaces,
    InvalidReach,
    InvalidSet,
    InvalidThing,
    InvalidWords,
    InvalidWorths,
)
from keptlikes.limits import MOST_LETTERS, MOST_THINGS


def is_integer(value):
    """Whether the value is an int that is not a bool."""
    return isinstance(value, int) and not isinstance(value, bool)


def is_thing(value, count):
    """Whether the value is one of the things from 0 to count - 1."""
    return is_integer(value) and 0 <= value < count


def is_tuple_of_things(value, count):
    """Whether the value is a tuple of such things, in any sequence."""
    return isinstance(value, tuple) and all([is_thing(thing, count) for thing in value])


def is_pair(value, count):
    """Whether the value is a pair (i, j) of such things with i < j."""
    return is_tuple_of_things(value, count) and len(value) == 2 and value[0] < value[1]


def is_set(value, count):
    """Whether the value is an ascending tuple of one or more different things."""
    if not is_tuple_of_things(value, count) or len(value) == 0:
        return False
    return all([low < high for low, high in zip(value, value[1:])])


def is_order(value, count):
    """Whether the value is a tuple of all things, each once."""
    return is_tuple_of_things(value, count) and sorted(value) == list(range(count))


def is_short_word(value):
    """Whether the value is a string of a permitted length."""
    return isinstance(value, str) and len(value) <= MOST_LETTERS


def check_worths(worths):
    """Raise InvalidWorths unless these are the worths of a heap."""
    if not isinstance(worths, tuple) or not 1 <= len(worths) <= MOST_THINGS:
        raise InvalidWorths(None)
    for place, worth in enumerate(worths):
        if not is_integer(worth):
            raise InvalidWorths(place)


def check_pairs(pairs, count):
    """Raise InvalidPairs unless these are the pairs of a heap of so many things."""
    if not isinstance(pairs, tuple):
        raise InvalidPairs(None)
    for place, pair in enumerate(pairs):
        # The pair before is known to be right here, so that the two can be compared.
        if not is_pair(pair, count) or (place > 0 and pair <= pairs[place - 1]):
            raise InvalidPairs(place)


def check_places(places, count):
    """Raise InvalidPlaces unless these are places of so many things."""
    if not isinstance(places, tuple) or len(places) != count:
        raise InvalidPlaces(None)
    for at, place in enumerate(places):
        if not is_integer(place):
            raise InvalidPlaces(at)


def check_words(words, count):
    """Raise InvalidWords unless these are words of so many things."""
    if not isinstance(words, tuple) or len(words) != count:
        raise InvalidWords(None)
    for place, word in enumerate(words):
        if not is_short_word(word):
            raise InvalidWords(place)


def check_reach(reach):
    """Raise InvalidReach unless this is an integer from 0 upwards."""
    if not is_integer(reach) or reach < 0:
        raise InvalidReach(reach)


def check_thing(thing, count):
    """Raise InvalidThing unless this is one of so many things."""
    if not is_thing(thing, count):
        raise InvalidThing(thing)


def check_set(things, count):
    """Raise InvalidSet unless this is an ascending tuple of some of so many things."""
    if not is_set(things, count):
        raise InvalidSet(things)


def check_order(order, count):
    """Raise InvalidOrder unless this is an order of so many things."""
    if not is_order(order, count):
        raise InvalidOrder(order)
