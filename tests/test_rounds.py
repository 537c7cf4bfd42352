"""keptlikes.rounds: points 2 to 5, 8 and 9, and the section of the interface."""

import unittest
from itertools import combinations

from keptlikes.errors import InvalidSet, InvalidThing, InvalidWay, NotAHeap, TooMany
from keptlikes.heaps import Heap
from keptlikes.rounds import parts_fault, turned_by
from keptlikes.samples import sample_heap
from tests.helpers import ErrorCase, all_pairs, larger_heaps, some_heaps
from tests.oracle import WAYS, part_faults, turned


def all_parts(count):
    return [part for many in range(1, count) for part in combinations(range(count), many)]


class Example(unittest.TestCase):
    def test_turned_by(self):
        found = [turned_by(sample_heap(), way, 1) for way in ("first", "newest", "better", "best", "lots")]
        self.assertEqual(found, [(), (0, 2), (), (), (0,)])

    def test_parts_fault(self):
        heap = sample_heap()
        found = [
            parts_fault(heap, "lots", (0, 1)), parts_fault(heap, "first", (0, 1)),
            parts_fault(heap, "earlier", (0,)), parts_fault(heap, "best", (0, 1)) is None,
        ]
        self.assertEqual(found, [None, None, None, False])


class AgainstAllOrders(unittest.TestCase):
    def compare_turned(self, worths, pairs):
        heap = Heap(worths, pairs)
        for way in WAYS:
            for thing in range(len(heap)):
                with self.subTest(worths=worths, pairs=pairs, way=way, thing=thing):
                    self.assertEqual(turned_by(heap, way, thing), turned(worths, pairs, way, thing))

    def compare_parts(self, worths, pairs, way, part):
        with self.subTest(worths=worths, pairs=pairs, way=way, part=part):
            expected = part_faults(worths, pairs, way, part)
            found = parts_fault(Heap(worths, pairs), way, part)
            if expected:
                self.assertIn(found, expected)
            else:
                self.assertIsNone(found)

    def compare_all_parts(self, worths, pairs):
        for way in WAYS:
            for part in all_parts(len(worths)):
                self.compare_parts(worths, pairs, way, part)

    def test_turned_by_with_up_to_four_things(self):
        for worths, pairs in some_heaps():
            self.compare_turned(worths, pairs)

    def test_parts_fault_with_up_to_three_things(self):
        for worths, pairs in some_heaps():
            if len(worths) <= 3:
                self.compare_all_parts(worths, pairs)

    def test_parts_fault_with_four_things(self):
        for worths, pairs in [row for row in some_heaps() if len(row[0]) == 4][::2]:
            self.compare_all_parts(worths, pairs)

    def test_five_and_six_things(self):
        for worths, pairs in larger_heaps():
            self.compare_turned(worths, pairs)
            for way in WAYS:
                for part in ((2,), (0, 3), (1, 2, 4), (0, 1, 2, 3)):
                    self.compare_parts(worths, pairs, way, part)

    def test_seven_things(self):
        worths = (3, 1, 4, 1, 5, 2, 4)
        pairs = ((0, 1), (0, 6), (1, 2), (1, 4), (2, 3), (3, 4), (4, 5), (5, 6))
        for way in WAYS:
            for thing in (1, 5):
                self.assertEqual(turned_by(Heap(worths, pairs), way, thing), turned(worths, pairs, way, thing))
            for part in ((3,), (0, 2, 5), (0, 1, 2, 3, 4, 6)):
                self.compare_parts(worths, pairs, way, part)


class Turned(unittest.TestCase):
    def test_one_thing(self):
        for way in WAYS:
            self.assertEqual(turned_by(Heap((1,), ()), way, 0), ())

    def test_two_things(self):
        heap = Heap((1, 2), ((0, 1),))
        self.assertEqual([turned_by(heap, way, 1) for way in WAYS], [(), (), (0,), (0,), (0,), (0,)])
        self.assertEqual([turned_by(heap, way, 0) for way in WAYS], [(), (), (1,), (), (), ()])

    def test_nothing_near(self):
        for way in WAYS:
            for thing in range(4):
                self.assertEqual(turned_by(Heap((1, 2, 3, 4), ()), way, thing), ())

    def test_all_near_with_equal_worths(self):
        heap = Heap((2,) * 7, all_pairs(7))
        self.assertEqual([turned_by(heap, way, 3) for way in WAYS], [(), (), (0, 1, 2, 4, 5, 6), (), (), ()])

    def test_a_struck_thing_that_is_kept_behind_the_arrival(self):
        # Thing 2 strikes thing 1, which then no longer stands in the way of thing 0.
        heap = Heap((1, 2, 3), ((0, 1), (1, 2)))
        self.assertEqual(turned_by(heap, "best", 2), (0, 1))

    def test_lots_of_the_others_alone(self):
        heap = Heap((5, 1, 4), ((0, 1), (1, 2)))
        self.assertEqual(turned_by(heap, "lots", 1), (2,))
        self.assertEqual(turned_by(heap, "lots", 0), (2,))
        self.assertEqual(turned_by(heap, "lots", 2), ())

    def test_seven_things_on_a_line(self):
        heap = Heap.line((1, 2, 3, 4, 5, 6, 7), (0, 1, 2, 3, 4, 5, 6), 1)
        self.assertEqual(turned_by(heap, "best", 6), (0, 1, 2, 3, 4, 5))
        self.assertEqual(turned_by(heap, "newest", 3), (2, 4))
        self.assertEqual(turned_by(heap, "first", 3), ())
        self.assertEqual(turned_by(heap, "lots", 3), (2,))


class Parts(unittest.TestCase):
    def test_nothing_near(self):
        for way in WAYS:
            self.assertIsNone(parts_fault(Heap((1, 2, 3, 4), ()), way, (1, 2)))

    def test_a_nearness_that_passes_on(self):
        heap = Heap((1, 2, 3, 4, 4), ((0, 1), (0, 2), (1, 2), (3, 4)))
        for way in WAYS:
            for part in all_parts(5):
                self.assertIsNone(parts_fault(heap, way, part))

    def test_all_near_with_equal_worths(self):
        for way in WAYS:
            self.assertIsNone(parts_fault(Heap((1,) * 7, all_pairs(7)), way, (0, 2, 4)))

    def test_what_the_part_struck_no_longer_strikes(self):
        # 1 is struck in the part, so that 2 is kept alone and behind it, but not in the heap.
        heap = Heap((1, 1, 1), ((0, 1), (1, 2)))
        self.assertEqual(parts_fault(heap, "earlier", (0, 1)), (0, 1, 2))
        self.assertIsNone(parts_fault(heap, "first", (0, 1)))

    def test_the_part_arrives_first(self):
        heap = Heap((1, 2, 3), ((0, 1), (1, 2)))
        self.assertEqual(parts_fault(heap, "best", (0, 1)) in ((0, 1, 2), (1, 0, 2)), True)
        self.assertIsNone(parts_fault(heap, "best", (0,)))
        self.assertIsNone(parts_fault(heap, "best", (1,)))

    def test_the_greatest_and_the_smallest_part_of_seven_things(self):
        heap = Heap.line((1, 2, 3, 4, 5, 6, 7), (0, 1, 2, 3, 4, 5, 6), 1)
        self.assertIsNone(parts_fault(heap, "first", (0, 1, 2, 3, 4, 5)))
        self.assertIsNone(parts_fault(heap, "earlier", (6,)))
        order = parts_fault(heap, "earlier", (0, 1, 2, 3, 4, 5))
        self.assertIn(order, part_faults(heap.worths, heap.pairs, "earlier", (0, 1, 2, 3, 4, 5)))


class General(unittest.TestCase):
    def test_by_name(self):
        heap = sample_heap()
        self.assertEqual(turned_by(thing=1, way="newest", heap=heap), (0, 2))
        self.assertIsNone(parts_fault(part=(0, 1), way="first", heap=heap))
        self.assertEqual(sorted(parts_fault(part=(0, 1), way="best", heap=heap)[:2]), [0, 1])

    def test_equal_calls_lead_to_equal_results_and_change_nothing(self):
        worths, pairs = larger_heaps()[1]
        heap = Heap(worths, pairs)
        for way in WAYS:
            for thing in range(5):
                self.assertEqual(turned_by(heap, way, thing), turned_by(Heap(worths, pairs), way, thing))
            for part in all_parts(5)[::3]:
                self.assertEqual(parts_fault(heap, way, part), parts_fault(Heap(worths, pairs), way, part))
        self.assertEqual(heap, Heap(worths, pairs))

    def test_the_kinds_of_values(self):
        for way in WAYS:
            self.assertIs(type(turned_by(sample_heap(), way, 1)), tuple)
        self.assertIs(type(parts_fault(sample_heap(), "best", (0, 1))), tuple)

    def test_where_they_are_defined(self):
        for call in (turned_by, parts_fault):
            self.assertEqual(call.__module__, "keptlikes.rounds")


class Wrong(ErrorCase):
    def test_turned_by(self):
        self.assert_arguments(turned_by, {"heap": sample_heap(), "way": "first", "thing": 1})

    def test_parts_fault(self):
        self.assert_arguments(parts_fault, {"heap": sample_heap(), "way": "first", "part": (0, 2)})

    def test_one_thing_has_no_part(self):
        part = (0,)
        self.assert_value(InvalidSet, part, parts_fault, Heap((1,), ()), "first", part)

    def assert_too_many(self, call, *given, **named):
        self.assert_error(TooMany, "limit", 7, call, *given, **named)

    def test_more_than_seven_things(self):
        for heap in (Heap((1,) * 8, ()), Heap((1,) * 9, ()), Heap(tuple(range(9)), all_pairs(9))):
            for way in WAYS:
                self.assert_too_many(turned_by, heap, way, 7)
                self.assert_too_many(turned_by, thing=0, way=way, heap=heap)
                self.assert_too_many(parts_fault, heap, way, (0, 7))
                self.assert_too_many(parts_fault, part=(3,), way=way, heap=heap)

    def test_the_number_of_things_is_looked_at_last(self):
        heap = Heap((1,) * 8, ())
        everything = tuple(range(8))
        for call in (turned_by, parts_fault):
            self.assert_value(NotAHeap, None, call, None, "first", 0)
            self.assert_value(InvalidWay, "last", call, heap, "last", 8)
        for thing in (8, -1, True, "0", None, (0,)):
            self.assert_value(InvalidThing, thing, turned_by, heap, "first", thing)
        for part in (everything, (), (8,), (1, 0), (True,), [0], 0):
            self.assert_value(InvalidSet, part, parts_fault, heap, "first", part)

    def test_seven_things_are_not_too_many(self):
        heap = Heap((1,) * 7, ())
        for way in WAYS:
            self.assertEqual(turned_by(heap, way, 6), ())
            self.assertIsNone(parts_fault(heap, way, (0, 1, 2, 3)))


if __name__ == "__main__":
    unittest.main()
