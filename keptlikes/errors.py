"""The errors that the package raises.

Each class is derived from its base only, so that catching one kind of error
never catches another one; the attribute is therefore set in each class anew.
"""


class InputError(ValueError):
    """An argument is wrong."""


class NotAHeap(InputError):
    """The argument is not a Heap."""

    def __init__(self, value):
        self.value = value


class NotALiveHeap(InputError):
    """The argument is not a LiveHeap."""

    def __init__(self, value):
        self.value = value


class InvalidWay(InputError):
    """The argument is not one of the six ways."""

    def __init__(self, value):
        self.value = value


class InvalidName(InputError):
    """The argument is not the name of a property."""

    def __init__(self, value):
        self.value = value


class InvalidOrder(InputError):
    """The argument is not an order of all things of the heap."""

    def __init__(self, value):
        self.value = value


class InvalidThing(InputError):
    """The argument is not a thing of the heap."""

    def __init__(self, value):
        self.value = value


class InvalidWorth(InputError):
    """The argument is not an integer."""

    def __init__(self, value):
        self.value = value


class InvalidReach(InputError):
    """The argument is not an integer from 0 upwards."""

    def __init__(self, value):
        self.value = value


class InvalidSet(InputError):
    """The argument is not a set of things that is permitted here."""

    def __init__(self, value):
        self.value = value


class InvalidCount(InputError):
    """The argument is not a permitted number of things."""

    def __init__(self, value):
        self.value = value


class InvalidLine(InputError):
    """The argument is not a line that a console understands."""

    def __init__(self, value):
        self.value = value


class InvalidWorths(InputError):
    """The argument is not a tuple of 1 to 9 integers."""

    def __init__(self, index):
        self.index = index


class InvalidPairs(InputError):
    """The argument is not an ascending tuple of pairs of things."""

    def __init__(self, index):
        self.index = index


class InvalidPlaces(InputError):
    """The argument is not a tuple of as many integers as there are things."""

    def __init__(self, index):
        self.index = index


class InvalidWords(InputError):
    """The argument is not a tuple of as many short strings as there are things."""

    def __init__(self, index):
        self.index = index


class InvalidRows(InputError):
    """The argument is not a tuple of rows."""

    def __init__(self, index):
        self.index = index


class InvalidNear(InputError):
    """The argument is not an ascending tuple of things that have arrived."""

    def __init__(self, index):
        self.index = index


class InvalidDeeds(InputError):
    """One of the arguments is not a deed."""

    def __init__(self, index):
        self.index = index


class StateError(LookupError):
    """A live heap cannot do this now."""


class NothingToUndo(StateError):
    """There is no arrival that could be taken back."""


class Busy(StateError):
    """The live heap is in the middle of arrive_all."""


class SizeError(ArithmeticError):
    """Something would become too large."""


class TooMany(SizeError):
    """There are more things than the limit permits."""

    def __init__(self, limit):
        self.limit = limit
