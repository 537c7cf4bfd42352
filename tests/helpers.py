"""What several test files share: wrong values, and how errors are looked at."""

import unittest
from itertools import combinations


class Equal:
    """A value that says it is equal to everything, and has no hash."""

    __hash__ = None

    def __eq__(self, other):
        return True

    def __ne__(self, other):
        return False


class Refusing:
    """A value that can be neither compared nor measured nor tested."""

    __hash__ = None

    def refuse(self, *_):
        raise RuntimeError("this value does not answer")

    __eq__ = __ne__ = __lt__ = __gt__ = __le__ = __ge__ = refuse
    __bool__ = __len__ = __iter__ = __repr__ = refuse


def deep(levels):
    """A tuple with so many levels of nesting."""
    value = ()
    for _ in range(levels - 1):
        value = (value,)
    return value


def strange_values():
    """Values that are neither integers nor strings nor tuples nor heaps."""
    return [
        None, True, False, [], [0], [0, 1, 2], [(0, 1)], {}, {0: 1}, set(), {0}, frozenset((0, 1)),
        b"", b"first", bytearray(b"0"), range(3), iter((0, 1)), len, object, object(), Equal(),
        Refusing(), Ellipsis, ValueError("first"),
    ]


def all_pairs(count):
    return tuple(combinations(range(count), 2))


def all_graphs(count):
    """All tuples of pairs that a heap of so many things may have."""
    pairs = all_pairs(count)
    return [chosen for many in range(len(pairs) + 1) for chosen in combinations(pairs, many)]


class ErrorCase(unittest.TestCase):
    def assert_error(self, error, attribute, held, call, *given, **named):
        """The call raises exactly this error, which holds exactly this object."""
        with self.assertRaises(error) as caught:
            call(*given, **named)
        self.assertIs(type(caught.exception), error)
        self.assertIs(vars(caught.exception)[attribute], held)

    def assert_index(self, error, index, call, *given, **named):
        self.assert_error(error, "index", index, call, *given, **named)

    def assert_value(self, error, value, call, *given, **named):
        self.assert_error(error, "value", value, call, *given, **named)
