"""keptlikes.reaches: points 2 to 5, 8 and 9, and the section of the interface."""

import inspect
import unittest
from itertools import combinations, product

from keptlikes.errors import InvalidPlaces, InvalidWay, InvalidWorths
from keptlikes.heaps import Heap
from keptlikes.orders import is_free
from keptlikes.reaches import free_reaches
from tests.helpers import ErrorCase, strange_values, wrong_arguments
from tests.oracle import WAYS, all_outcomes

LARGE = 10 ** 20 - 1
EVERYTHING = ((0, None),)


def pairs_within(places, reach):
    """The pairs that `Heap.line` finds, by the words of the document."""
    things = range(len(places))
    return tuple((i, j) for i, j in combinations(things, 2) if abs(places[i] - places[j]) <= reach)


def reaches_to_try(places):
    """0, all distances, and the reaches beside them."""
    distances = {abs(one - other) for one in places for other in places}
    return sorted({reach for far in distances for reach in (far - 1, far, far + 1) if reach >= 0})


def free_by_all_orders(worths, places, reach, way):
    return len(all_outcomes(worths, pairs_within(places, reach), way)) == 1


class Example(unittest.TestCase):
    def test_free_reaches(self):
        found = [
            free_reaches((1, 2, 3), (10, 13, 15), "better"), free_reaches((1, 2, 3), (10, 13, 15), "best"),
            free_reaches((1, 1, 1), (10, 13, 15), "first"),
        ]
        self.assertEqual(found, [((0, 2), (5, None)), ((0, None),), ((0, 1),)])


class Ranges(unittest.TestCase):
    def assert_ranges(self, found):
        """They are pairs, ascend, and leave a gap between one another."""
        self.assertIs(type(found), tuple)
        for one in found:
            self.assertIs(type(one), tuple)
            low, high = one
            self.assertIs(type(low), int)
            self.assertTrue(0 <= low and (high is None or (type(high) is int and low <= high)))
        for one, other in zip(found, found[1:]):
            self.assertTrue(one[1] is not None and one[1] + 1 < other[0])

    def compare(self, worths, places, way, free):
        """The ranges tell what `free` tells, at and beside all distances, and end there only."""
        found = free_reaches(worths, places, way)
        self.assert_ranges(found)
        tried = reaches_to_try(places)
        for reach in tried:
            inside = any(low <= reach and (high is None or reach <= high) for low, high in found)
            if inside is not free(worths, places, reach, way):
                self.fail(f"{worths} {places} {way}: {found}, but {reach}")
        for low, high in found:
            self.assertIn(low, tried)
            self.assertTrue(high is None or high in tried)


class AgainstAllOrders(Ranges):
    def compare_all_ways(self, worths, places):
        for way in WAYS:
            self.compare(worths, places, way, free_by_all_orders)

    def test_one_thing(self):
        for places in ((0,), (7,), (-LARGE,)):
            self.compare_all_ways((3,), places)

    def test_two_things(self):
        for worths in ((1, 1), (1, 2), (2, 1)):
            for places in ((0, 0), (0, 1), (5, 2), (-3, 4), (-LARGE, LARGE)):
                self.compare_all_ways(worths, places)

    def test_three_things(self):
        for worths in ((1, 1, 1), (1, 2, 3), (3, 1, 2), (2, 1, 2), (1, 2, 1), (2, 2, 1)):
            for places in product((0, 1, 3, 4), repeat=3):
                self.compare_all_ways(worths, places)

    def test_four_things(self):
        for worths in ((1, 2, 3, 4), (2, 1, 1, 2), (1, 1, 1, 1), (3, 1, 4, 1)):
            for places in ((0, 1, 2, 3), (0, 3, 5, 9), (4, 0, 1, 8), (2, 2, 5, 5), (-9, 7, -2, 0), (0, 0, 0, 6)):
                self.compare_all_ways(worths, places)

    def test_five_and_six_things(self):
        self.compare_all_ways((5, 1, 4, 2, 3), (0, 2, 3, 7, 8))
        self.compare_all_ways((1, 1, 2, 2, 1), (6, -1, 6, 3, 10))
        for way in ("first", "better", "lots"):
            self.compare((1, 3, 2, 3, 1, 2), (0, 1, 3, 4, 4, 9), way, free_by_all_orders)

    def test_large_places(self):
        self.compare_all_ways((1, 2, 3), (LARGE, -LARGE, 0))
        self.compare_all_ways((LARGE, -LARGE, LARGE - 1), (LARGE, LARGE - 1, LARGE - 3))


class NineThings(Ranges):
    def free_by_is_free(self, worths, places, reach, way):
        return is_free(Heap(worths, pairs_within(places, reach)), way)

    def test_against_is_free(self):
        for worths, places in (
            ((3, 1, 4, 1, 5, 9, 2, 6, 5), (2, 7, 1, 8, 28, 18, 28, 45, 90)),
            ((1, 2, 3, 4, 5, 6, 7, 8, 9), (0, 1, 3, 7, 15, 31, 63, 127, 255)),
            ((1,) * 9, (5, 5, 5, 6, 6, 6, 9, 9, 9)),
        ):
            for way in WAYS:
                self.compare(worths, places, way, self.free_by_is_free)

    def test_alike_worths_on_a_line(self):
        for way in WAYS:
            found = free_reaches((1,) * 9, tuple(range(0, 90, 10)), way)
            self.assertEqual(found, ((0, 9),))

    def test_unlike_worths_are_always_free_for_best_and_lots(self):
        for way in ("best", "lots"):
            self.assertEqual(free_reaches(tuple(range(9)), (3, 1, 4, 1, 5, 9, 2, 6, 5), way), EVERYTHING)

    def test_all_at_one_place(self):
        self.assertEqual([free_reaches(tuple(range(9)), (4,) * 9, way) for way in WAYS], [
            (), (), (), EVERYTHING, EVERYTHING, EVERYTHING,
        ])
        self.assertEqual([free_reaches((7,) * 9, (4,) * 9, way) for way in WAYS], [()] * 6)


class Edges(unittest.TestCase):
    def test_one_thing_is_always_free(self):
        for way in WAYS:
            self.assertEqual(free_reaches((-4,), (LARGE,), way), EVERYTHING)

    def test_two_things_at_one_place(self):
        found = [free_reaches((1, 2), (3, 3), way) for way in WAYS]
        self.assertEqual(found, [(), (), (), EVERYTHING, EVERYTHING, EVERYTHING])

    def test_the_reach_at_which_things_become_near(self):
        for way in WAYS:
            self.assertEqual(free_reaches((1, 1), (0, 1), way), ((0, 0),))
            self.assertEqual(free_reaches((1, 1), (-LARGE, LARGE), way), ((0, 2 * LARGE - 1),))

    def test_a_range_that_begins_later_and_has_no_end(self):
        found = free_reaches((1, 2, 2, 9), (0, 3, 3, 4), "lots")
        self.assertEqual(found, ((1, None),))

    def test_ranges_without_a_gap_are_put_together(self):
        # Things come near at 1, 2, 3, 4, 6 and 7; what is kept changes, but is free of order.
        self.assertEqual(free_reaches((1, 2, 3, 4), (0, 1, 3, 7), "lots"), EVERYTHING)
        # The heap is another one at 1 and at 2, and free of order each time.
        self.assertEqual(free_reaches((1, 1, 9), (0, 2, 1), "better"), EVERYTHING)

    def test_several_ranges(self):
        found = free_reaches((1, 2, 3, 9), (0, 3, 5, 20), "better")
        self.assertEqual(found, ((0, 2), (5, 14), (20, None)))


class General(unittest.TestCase):
    def test_by_name(self):
        found = free_reaches(way="better", places=(10, 13, 15), worths=(1, 2, 3))
        self.assertEqual(found, ((0, 2), (5, None)))
        self.assertEqual(list(inspect.signature(free_reaches).parameters), ["worths", "places", "way"])
        self.assertEqual(free_reaches.__module__, "keptlikes.reaches")

    def test_equal_calls_lead_to_equal_results(self):
        for way in WAYS:
            for places in product((0, 2, 5), repeat=3):
                again = tuple(list(places))
                self.assertEqual(free_reaches((1, 3, 2), places, way), free_reaches((1, 3, 2), again, way))


class Wrong(ErrorCase):
    def test_worths(self):
        for worths in (*strange_values(), 3, "123", (), (1,) * 10, [1, 2, 3], Heap((1, 2), ())):
            self.assert_index(InvalidWorths, None, free_reaches, worths, (1, 2, 3), "first")
            self.assert_index(InvalidWorths, None, free_reaches, worths, [], [])
            self.assert_index(InvalidWorths, None, free_reaches, way=None, places=None, worths=worths)

    def test_one_worth(self):
        for wrong in (*strange_values(), "1", (1,)):
            self.assert_index(InvalidWorths, 1, free_reaches, (1, wrong, 3), (1, 2, 3), "first")
            self.assert_index(InvalidWorths, 2, free_reaches, (1, 2, wrong), [], [])

    def test_places(self):
        for places in (*strange_values(), 3, "123", (), (1, 2), (1, 2, 3, 4), [1, 2, 3], (None,) * 4):
            self.assert_index(InvalidPlaces, None, free_reaches, (1, 2, 3), places, "first")
            self.assert_index(InvalidPlaces, None, free_reaches, way=[], places=places, worths=(1, 2, 3))

    def test_one_place(self):
        for wrong in (*strange_values(), "1", (1,)):
            self.assert_index(InvalidPlaces, 0, free_reaches, (1, 2, 3), (wrong, 2, None), "first")
            self.assert_index(InvalidPlaces, 2, free_reaches, (1, 2, 3), (1, 2, wrong), [])

    def test_ways(self):
        error, values = wrong_arguments()["way"]
        self.assertIs(error, InvalidWay)
        for way in values:
            self.assert_value(InvalidWay, way, free_reaches, (1, 2, 3), (1, 2, 3), way)
            self.assert_value(InvalidWay, way, free_reaches, way=way, worths=(1,), places=(2,))


if __name__ == "__main__":
    unittest.main()
