"""What several test files share: wrong values, and how errors are looked at."""

import inspect
import unittest
from itertools import combinations

from keptlikes.errors import (
    InvalidCount,
    InvalidName,
    InvalidOrder,
    InvalidSet,
    InvalidThing,
    InvalidWay,
    NotAHeap,
)
from keptlikes.heaps import Heap


class Equal:
    """A value that says it is equal to everything, and has no hash."""

    __hash__ = None

    def __eq__(self, other):
        return True

    def __ne__(self, other):
        return False


class Refusing:
    """A value that can be neither compared nor measured nor tested."""

    __hash__ = None

    def refuse(self, *_):
        raise RuntimeError("this value does not answer")

    __eq__ = __ne__ = __lt__ = __gt__ = __le__ = __ge__ = refuse
    __bool__ = __len__ = __iter__ = __repr__ = refuse


def deep(levels):
    """A tuple with so many levels of nesting."""
    value = ()
    for _ in range(levels - 1):
        value = (value,)
    return value


def strange_values():
    """Values that are neither integers nor strings nor tuples nor heaps."""
    return [
        None, True, False, [], [0], [0, 1, 2], [(0, 1)], {}, {0: 1}, set(), {0}, frozenset((0, 1)),
        b"", b"first", bytearray(b"0"), range(3), iter((0, 1)), len, object, object(), Equal(),
        Refusing(), Ellipsis, ValueError("first"),
    ]


def all_pairs(count):
    return tuple(combinations(range(count), 2))


def all_graphs(count):
    """All tuples of pairs that a heap of so many things may have."""
    pairs = all_pairs(count)
    return [chosen for many in range(len(pairs) + 1) for chosen in combinations(pairs, many)]


def all_sets(count):
    """All ascending tuples of one or more of so many things."""
    return [things for many in range(1, count + 1) for things in combinations(range(count), many)]


def some_heaps():
    """Worths and pairs of heaps of 1 to 4 things, of many shapes and with many worths."""
    rows = [
        (0,), (1, 1), (1, 2), (2, 1), (1, 1, 1), (1, 2, 3), (3, 1, 2), (2, 1, 2), (1, 2, 1), (2, 1, 1),
        (1, 1, 2), (4, 1, 3, 2), (2, 2, 2, 2), (1, 2, 2, 1), (-1, 0, 0, 0),
    ]
    return [(worths, pairs) for worths in rows for pairs in all_graphs(len(worths))]


def larger_heaps():
    """Worths and pairs of some heaps of 5 and 6 things."""
    return [
        ((1, 2, 3, 4, 5), ((0, 1), (1, 2), (2, 3), (3, 4))),
        ((3, 1, 3, 1, 3), ((0, 1), (0, 4), (1, 2), (2, 3), (3, 4))),
        ((2, 2, 2, 2, 2), ((0, 1), (0, 2), (0, 3), (0, 4))),
        ((5, 1, 2, 2, 4), ((0, 1), (0, 2), (1, 2), (3, 4))),
        ((1, 4, 2, 4, 3), ((0, 2), (1, 2), (1, 4), (2, 3), (3, 4))),
        ((1, 2, 3, 1, 2, 3), ((0, 1), (1, 2), (2, 3), (3, 4), (4, 5))),
        ((9, 8, 7, 7, 8, 9), ((0, 3), (0, 4), (1, 2), (1, 5), (2, 4), (3, 5))),
    ]


def wrong_arguments():
    """For each parameter the error, and values that are wrong for a heap of 3 things."""
    odd = strange_values()
    right = Heap((1, 2, 3), ((0, 1), (1, 2)))
    sets = [
        (), (3,), (-1,), (0, 3), (1, 0), (0, 0), (1, 1, 2), (0, 2, 1), (0, 1, 2, 3), (True,), (False, 1),
        (0, True), (0, None), ("0",), ((0,),), (0, [1]), (Equal(),), (Refusing(),), (10 ** 20 - 1,), "0", 0, 2,
        right, deep(15),
    ]
    orders = [
        (), (0,), (0, 1), (1, 2), (0, 1, 2, 0), (0, 1, 2, 3), (0, 1, 1), (0, 0, 0), (1, 2, 3), (-1, 0, 1),
        (0, True, 2), (False, 1, 2), (0, 1, None), ("0", "1", "2"), ((0,), (1,), (2,)), (0, 1, [2]),
        (0, 1, Equal()), (0, 1, Refusing()), (0, 1, 10 ** 20 - 1), "012", 3, right, deep(15),
    ]
    ways = [
        "", "First", "FIRST", " first", "first ", "firs", "second", "better best", "covered", "x" * 500, 0, 1,
        ("first",), ["first"], {"first"}, right, deep(15),
    ]
    names = [
        "", "Covered", "FAIR", " just", "just ", "jus", "unfair", "fair,just", "first", "x" * 500, 0, 1,
        ("fair",), ["fair"], {"fair"}, right, deep(15),
    ]
    heaps = [3, "heap", (), (1, 2, 3), ((1, 2, 3), ((0, 1), (1, 2))), Heap, deep(15)]
    things = [3, 4, -1, 10 ** 20 - 1, "0", "", (0,), (), right, deep(15)]
    counts = [0, -1, 10, 11, 10 ** 20 - 1, 1 - 10 ** 20, "3", "", (3,), (), right, deep(15)]
    return {
        "heap": (NotAHeap, heaps + odd),
        "way": (InvalidWay, ways + odd),
        "other_way": (InvalidWay, ways + odd),
        "name": (InvalidName, names + odd),
        "order": (InvalidOrder, orders + odd),
        "thing": (InvalidThing, things + odd),
        "count": (InvalidCount, counts + odd),
        "things": (InvalidSet, sets + odd),
        "part": (InvalidSet, [(0, 1, 2), *sets, *odd]),
    }


class ErrorCase(unittest.TestCase):
    def assert_error(self, error, attribute, held, call, *given, **named):
        """The call raises exactly this error, which holds exactly this object."""
        with self.assertRaises(error) as caught:
            call(*given, **named)
        self.assertIs(type(caught.exception), error)
        self.assertIs(vars(caught.exception)[attribute], held)

    def assert_index(self, error, index, call, *given, **named):
        self.assert_error(error, "index", index, call, *given, **named)

    def assert_value(self, error, value, call, *given, **named):
        self.assert_error(error, "value", value, call, *given, **named)

    def assert_arguments(self, call, right):
        """The call takes these arguments and tells each wrong one, the first one of several."""
        wrong = wrong_arguments()
        names = list(right)
        self.assertEqual(list(inspect.signature(call).parameters), names)
        for place, name in enumerate(names):
            error, values = wrong[name]
            # A list is a wrong value for each parameter.
            behind = {later: [] for later in names[place + 1:]}
            for value in values:
                given = {**right, name: value}
                self.assert_value(error, value, call, *given.values())
                self.assert_value(error, value, call, **given)
                self.assert_value(error, value, call, *{**given, **behind}.values())
                self.assert_value(error, value, call, **dict(reversed({**given, **behind}.items())))
