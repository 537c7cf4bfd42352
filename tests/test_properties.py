"""keptlikes.properties: points 2 to 5 and 9, and the section of the interface."""

import unittest
from itertools import permutations

from keptlikes.heaps import Heap
from keptlikes.properties import always_holds, failing, fault, holds_for
from keptlikes.samples import sample_heap
from tests.helpers import ErrorCase, all_pairs, larger_heaps, some_heaps
from tests.oracle import NAMES, WAYS, all_orders, by_the_document, faults, property_holds


class Example(unittest.TestCase):
    def test_failing(self):
        self.assertEqual([failing(sample_heap(), way) for way in WAYS], [
            ("fair", "just"), ("covered", "fair", "just"), ("covered", "fair", "just"),
            ("covered", "fair", "just"), ("just",), ("covered", "fair"),
        ])

    def test_the_others(self):
        found = [
            holds_for(sample_heap(), "better", "covered", (0, 1, 2)),
            always_holds(sample_heap(), "best", "just"), fault(sample_heap(), "best", "fair"),
        ]
        self.assertEqual(found, [False, False, None])


class EachProperty(unittest.TestCase):
    def expect(self, heap, way, order, expected):
        found = tuple(name for name in NAMES if holds_for(heap, way, name, order))
        self.assertEqual(found, expected)

    def test_what_is_struck_must_be_near_a_kept_one(self):
        heap = Heap((1, 2, 3), ((0, 1), (1, 2)))
        self.expect(heap, "better", (0, 1, 2), ("just",))
        self.expect(heap, "better", (0, 2, 1), ("covered", "fair"))

    def test_fair_is_met_by_an_equal_worth(self):
        self.expect(Heap((2, 2), ((0, 1),)), "first", (0, 1), NAMES)
        self.expect(Heap((2, 3), ((0, 1),)), "first", (0, 1), ("covered",))
        self.expect(Heap((2, 3), ((0, 1),)), "first", (1, 0), NAMES)

    def test_fair_needs_one_match_and_just_looks_at_all(self):
        # The struck thing 1 is near the kept things 0, which is worse, and 2, which is better.
        self.expect(Heap((1, 2, 3), ((0, 1), (1, 2))), "first", (0, 2, 1), ("covered", "fair"))

    def test_just_without_covered(self):
        # Only thing 2 is kept, which is near the struck thing 1, but not near the struck thing 0.
        self.expect(Heap((3, 2, 1), ((0, 1), (1, 2))), "newest", (0, 1, 2), ())
        self.expect(Heap((3, 1, 1), ((0, 1), (1, 2))), "newest", (0, 1, 2), ("just",))

    def test_all_hold_if_nothing_is_struck(self):
        for way in WAYS:
            self.expect(Heap((3, 1, 2), ()), way, (2, 0, 1), NAMES)


class AgainstAllOrders(unittest.TestCase):
    def compare(self, worths, pairs):
        heap = Heap(worths, pairs)
        for way in WAYS:
            failed = []
            for name in NAMES:
                with self.subTest(worths=worths, pairs=pairs, way=way, name=name):
                    expected = faults(worths, pairs, way, name)
                    self.assertIs(always_holds(heap, way, name), not expected)
                    found = fault(heap, way, name)
                    if expected:
                        failed.append(name)
                        self.assertIn(found, expected)
                    else:
                        self.assertIsNone(found)
            self.assertEqual(failing(heap, way), tuple(failed))

    def compare_each_order(self, worths, pairs):
        heap = Heap(worths, pairs)
        for way in WAYS:
            for order, held in all_orders(worths, pairs, way).items():
                for name in NAMES:
                    expected = property_holds(worths, pairs, name, held)
                    if holds_for(heap, way, name, order) is not expected:
                        self.fail(f"{worths} {pairs} {way} {name} {order}: not {expected}")

    def test_up_to_four_things(self):
        for worths, pairs in some_heaps():
            self.compare(worths, pairs)

    def test_each_order_of_up_to_three_things(self):
        for worths, pairs in some_heaps():
            if len(worths) <= 3:
                self.compare_each_order(worths, pairs)

    def test_each_order_of_some_heaps_of_four_things(self):
        for worths, pairs in some_heaps()[::9]:
            self.compare_each_order(worths, pairs)

    def test_five_and_six_things(self):
        for worths, pairs in larger_heaps():
            self.compare(worths, pairs)


class Edges(unittest.TestCase):
    def test_one_thing(self):
        for way in WAYS:
            self.assertEqual(failing(Heap((1,), ()), way), ())
            for name in NAMES:
                self.assertIs(holds_for(Heap((1,), ()), way, name, (0,)), True)
                self.assertIs(always_holds(Heap((1,), ()), way, name), True)
                self.assertIsNone(fault(Heap((1,), ()), way, name))

    def test_nine_things_with_nothing_near(self):
        heap = Heap((5, 1, 4, 1, 5, 9, 2, 6, 5), ())
        for way in WAYS:
            self.assertEqual(failing(heap, way), ())
            for name in NAMES:
                self.assertIs(holds_for(heap, way, name, (8, 0, 7, 1, 6, 2, 5, 3, 4)), True)
                self.assertIsNone(fault(heap, way, name))

    def test_nine_things_all_near(self):
        heap = Heap((4, 9, 2, 7, 6, 5, 8, 3, 1), all_pairs(9))
        for way in ("first", "earlier", "newest"):
            self.assertEqual(failing(heap, way), ("fair", "just"))
            self.assertIs(always_holds(heap, way, "covered"), True)
            for name in ("fair", "just"):
                order = fault(heap, way, name)
                held = by_the_document(heap.worths, heap.pairs, way, order)
                self.assertNotEqual(held, (1,))
                self.assertIs(holds_for(heap, way, name, order), False)
        for way in ("better", "best", "lots"):
            self.assertEqual(failing(heap, way), ())

    def test_nine_things_all_near_with_equal_worths(self):
        for way in WAYS:
            self.assertEqual(failing(Heap((0,) * 9, all_pairs(9)), way), ())

    def test_nine_things_on_a_line(self):
        heap = Heap.line((1, 2, 3, 4, 5, 6, 7, 8, 9), tuple(range(9)), 1)
        self.assertEqual([failing(heap, way) for way in WAYS], [
            ("fair", "just"), NAMES, NAMES, NAMES, ("just",), ("covered", "fair"),
        ])
        for way in WAYS:
            for name in failing(heap, way):
                order = fault(heap, way, name)
                held = by_the_document(heap.worths, heap.pairs, way, order)
                self.assertFalse(property_holds(heap.worths, heap.pairs, name, held))

    def test_a_nearness_that_passes_on(self):
        heap = Heap((1, 2, 2, 5, 4), ((0, 1), (0, 2), (1, 2), (3, 4)))
        self.assertEqual([failing(heap, way) for way in WAYS], [
            ("fair", "just"), ("fair", "just"), ("fair", "just"), (), (), (),
        ])

    def test_worths_of_20_digits(self):
        large = 10 ** 20 - 1
        heap = Heap((large - 1, large), ((0, 1),))
        self.assertEqual([failing(heap, way) for way in WAYS], [("fair", "just")] * 3 + [()] * 3)
        self.assertEqual(fault(heap, "first", "fair"), (0, 1))
        self.assertEqual(fault(heap, "newest", "just"), (1, 0))


class General(unittest.TestCase):
    def test_by_name(self):
        heap = sample_heap()
        self.assertIs(holds_for(order=(0, 1, 2), name="covered", way="better", heap=heap), False)
        self.assertIs(holds_for(order=(0, 2, 1), name="covered", way="better", heap=heap), True)
        self.assertIs(always_holds(name="just", way="best", heap=heap), False)
        self.assertIs(always_holds(name="fair", way="best", heap=heap), True)
        self.assertIsNone(fault(name="fair", way="best", heap=heap))
        self.assertEqual(fault(name="covered", way="better", heap=heap), (0, 1, 2))
        self.assertEqual(failing(way="best", heap=heap), ("just",))

    def test_equal_calls_lead_to_equal_results_and_change_nothing(self):
        for worths, pairs in larger_heaps()[:3]:
            heap = Heap(worths, pairs)
            for way in WAYS:
                self.assertEqual(failing(heap, way), failing(Heap(worths, pairs), way))
                for name in NAMES:
                    found = fault(heap, way, name)
                    self.assertEqual(fault(heap, way, name), found)
                    self.assertEqual(fault(Heap(worths, pairs), way, name), found)
            self.assertEqual(heap, Heap(worths, pairs))

    def test_the_kinds_of_values(self):
        for way in WAYS:
            self.assertIs(type(failing(sample_heap(), way)), tuple)
            for name in failing(sample_heap(), way):
                order = fault(sample_heap(), way, name)
                self.assertIs(type(order), tuple)
                self.assertIn(order, list(permutations(range(3))))

    def test_where_they_are_defined(self):
        for call in (holds_for, always_holds, fault, failing):
            self.assertEqual(call.__module__, "keptlikes.properties")


class Wrong(ErrorCase):
    def test_holds_for(self):
        right = {"heap": sample_heap(), "way": "first", "name": "just", "order": (0, 1, 2)}
        self.assert_arguments(holds_for, right)

    def test_always_holds_and_fault(self):
        for call in (always_holds, fault):
            self.assert_arguments(call, {"heap": sample_heap(), "way": "lots", "name": "covered"})

    def test_failing(self):
        self.assert_arguments(failing, {"heap": sample_heap(), "way": "newest"})


if __name__ == "__main__":
    unittest.main()
