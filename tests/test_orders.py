"""keptlikes.orders: points 2 to 5, 8 and 9, and the section of the interface."""

import unittest
from itertools import combinations, permutations, product

from keptlikes.heaps import Heap
from keptlikes.orders import always_kept, ever_kept, is_free, order_for, outcomes, sizes, two_orders
from keptlikes.samples import sample_heap
from keptlikes.ways import kept
from tests.helpers import ErrorCase, all_pairs, all_sets, larger_heaps, some_heaps
from tests.oracle import WAYS, all_orders, all_outcomes, by_the_document

OF_HEAP_AND_WAY = (outcomes, is_free, always_kept, ever_kept, sizes, two_orders)


def is_an_order(order, count):
    return (
        type(order) is tuple and all(type(thing) is int for thing in order)
        and sorted(order) == list(range(count))
    )


class Example(unittest.TestCase):
    def test_outcomes(self):
        found = [outcomes(sample_heap(), way) for way in ("first", "better", "best", "newest")]
        self.assertEqual(found, [
            ((0, 2), (1,)), ((0, 2), (2,)), ((0, 2),), ((0,), (0, 2), (1,), (2,)),
        ])

    def test_the_others(self):
        heap = sample_heap()
        found = [
            is_free(heap, "lots"), always_kept(heap, "better"), ever_kept(heap, "better"),
            sizes(heap, "first"), order_for(heap, "best", (1,)), two_orders(heap, "best"),
        ]
        self.assertEqual(found, [True, (2,), (0, 2), (1, 2), None, None])

    def test_the_ways_that_the_example_leaves_out(self):
        self.assertEqual(outcomes(sample_heap(), "earlier"), ((0,), (0, 2), (1,), (2,)))
        self.assertEqual(outcomes(sample_heap(), "lots"), ((2,),))


class AgainstAllOrders(unittest.TestCase):
    """Everything is held against the words of the document, order by order."""

    def compare(self, worths, pairs):
        count = len(worths)
        heap = Heap(worths, pairs)
        for way in WAYS:
            with self.subTest(worths=worths, pairs=pairs, way=way):
                expected = all_outcomes(worths, pairs, way)
                self.assertEqual(outcomes(heap, way), expected)
                self.assertIs(is_free(heap, way), len(expected) == 1)
                always = tuple(t for t in range(count) if all(t in held for held in expected))
                ever = tuple(t for t in range(count) if any(t in held for held in expected))
                self.assertEqual(always_kept(heap, way), always)
                self.assertEqual(ever_kept(heap, way), ever)
                numbers = sorted(len(held) for held in expected)
                self.assertEqual(sizes(heap, way), (numbers[0], numbers[-1]))
                self.compare_orders(heap, way, expected)

    def compare_orders(self, heap, way, expected):
        results = all_orders(heap.worths, heap.pairs, way)
        for things in all_sets(len(heap)):
            order = order_for(heap, way, things)
            if things in expected:
                self.assertTrue(is_an_order(order, len(heap)))
                self.assertEqual(results[order], things)
            else:
                self.assertIsNone(order)
        found = two_orders(heap, way)
        if len(expected) == 1:
            self.assertIsNone(found)
        else:
            self.assertIs(type(found), tuple)
            one, other = found
            self.assertTrue(is_an_order(one, len(heap)) and is_an_order(other, len(heap)))
            self.assertNotEqual(results[one], results[other])

    def test_up_to_four_things(self):
        for worths, pairs in some_heaps():
            self.compare(worths, pairs)

    def test_five_and_six_things(self):
        for worths, pairs in larger_heaps():
            self.compare(worths, pairs)


class Edges(unittest.TestCase):
    def test_one_thing(self):
        for way in WAYS:
            heap = Heap((5,), ())
            self.assertEqual(outcomes(heap, way), ((0,),))
            self.assertIs(is_free(heap, way), True)
            self.assertEqual((always_kept(heap, way), ever_kept(heap, way)), ((0,), (0,)))
            self.assertEqual(sizes(heap, way), (1, 1))
            self.assertEqual(order_for(heap, way, (0,)), (0,))
            self.assertIsNone(two_orders(heap, way))

    def test_nine_things_with_nothing_near(self):
        heap = Heap((1, 1, 2, 3, 5, 8, 8, 2, 1), ())
        everything = tuple(range(9))
        for way in WAYS:
            self.assertEqual(outcomes(heap, way), (everything,))
            self.assertIs(is_free(heap, way), True)
            self.assertEqual(always_kept(heap, way), everything)
            self.assertEqual(ever_kept(heap, way), everything)
            self.assertEqual(sizes(heap, way), (9, 9))
            self.assertEqual(sorted(order_for(heap, way, everything)), list(everything))
            self.assertIsNone(order_for(heap, way, (0, 1, 2, 3, 4, 5, 6, 7)))
            self.assertIsNone(two_orders(heap, way))

    def test_nine_things_all_near_with_unlike_worths(self):
        heap = Heap((4, 9, 2, 7, 6, 5, 8, 3, 1), all_pairs(9))
        alone = tuple((thing,) for thing in range(9))
        for way in ("first", "earlier", "newest"):
            self.assertEqual(outcomes(heap, way), alone)
            self.assertIs(is_free(heap, way), False)
            self.assertEqual(always_kept(heap, way), ())
            self.assertEqual(ever_kept(heap, way), tuple(range(9)))
        for way in ("better", "best", "lots"):
            self.assertEqual(outcomes(heap, way), ((1,),))
            self.assertIs(is_free(heap, way), True)
            self.assertIsNone(order_for(heap, way, (0,)))

    def test_nine_things_all_near_with_equal_worths(self):
        heap = Heap((3,) * 9, all_pairs(9))
        for way in WAYS:
            self.assertEqual(outcomes(heap, way), tuple((thing,) for thing in range(9)))
            self.assertEqual(sizes(heap, way), (1, 1))
            self.assertEqual(kept(heap, way, order_for(heap, way, (4,))), (4,))
            one, other = two_orders(heap, way)
            self.assertNotEqual(kept(heap, way, one), kept(heap, way, other))

    def test_equal_worths_that_are_the_greatest(self):
        heap = Heap((2, 7, 7, 1), all_pairs(4))
        for way in ("better", "best", "lots"):
            self.assertEqual(outcomes(heap, way), ((1,), (2,)))
            self.assertEqual((always_kept(heap, way), ever_kept(heap, way)), ((), (1, 2)))

    def test_worths_of_20_digits(self):
        large = 10 ** 20 - 1
        heap = Heap((large - 1, large, -large), ((0, 1), (1, 2)))
        self.assertEqual(outcomes(heap, "best"), ((1,),))
        self.assertEqual(outcomes(heap, "lots"), ((1,),))
        self.assertEqual(outcomes(heap, "better"), ((1,),))

    def test_a_nearness_that_passes_on(self):
        heap = Heap((1, 2, 3, 4), ((0, 1), (2, 3)))
        for way in ("better", "best", "lots"):
            self.assertEqual(outcomes(heap, way), ((1, 3),))
        for way in ("first", "earlier", "newest"):
            self.assertEqual(outcomes(heap, way), ((0, 2), (0, 3), (1, 2), (1, 3)))

    def test_sets_that_no_order_leads_to(self):
        heap = sample_heap()
        for things in ((0,), (2,), (0, 1), (1, 2), (0, 1, 2)):
            self.assertIsNone(order_for(heap, "first", things))
        self.assertIsNone(order_for(heap, "better", (0,)))
        self.assertIsNone(order_for(heap, "lots", (0, 2)))

    def test_better_with_a_row_of_things(self):
        # Each thing strikes the one before it, and is struck by the one behind it.
        heap = Heap((1, 2, 3, 4, 5), ((0, 1), (1, 2), (2, 3), (3, 4)))
        self.assertIn((4,), outcomes(heap, "better"))
        self.assertEqual(sizes(heap, "better"), (1, 3))


class NineThings(unittest.TestCase):
    """All orders are too many here, so the expected outcomes are found in other ways."""

    def test_first_keeps_all_sets_that_cannot_grow(self):
        heap = Heap.line((1, 2, 3, 4, 5, 6, 7, 8, 9), (0, 1, 3, 4, 6, 7, 9, 10, 12), 2)
        near = set(heap.pairs)
        expected = []
        for things in all_sets(9):
            apart = not any(pair in near for pair in combinations(things, 2))
            full = all(
                other in things or any((min(other, t), max(other, t)) in near for t in things)
                for other in range(9)
            )
            if apart and full:
                expected.append(things)
        self.assertEqual(outcomes(heap, "first"), tuple(sorted(expected)))
        for things in expected:
            order = order_for(heap, "first", things)
            self.assertEqual(by_the_document(heap.worths, heap.pairs, "first", order), things)

    def test_three_parts_that_are_not_near_one_another(self):
        worths, pairs = (1, 2, 3, 2, 2, 1, 5, 5, 5), (
            (0, 1), (1, 2), (3, 4), (4, 5), (6, 7), (7, 8),
        )
        heap = Heap(worths, pairs)
        for way in WAYS:
            parts = [
                [tuple(thing + start for thing in held)
                 for held in all_outcomes(worths[start:start + 3], ((0, 1), (1, 2)), way)]
                for start in (0, 3, 6)
            ]
            expected = sorted(one + two + three for one, two, three in product(*parts))
            self.assertEqual(outcomes(heap, way), tuple(expected))
            for things in expected[::7]:
                order = order_for(heap, way, things)
                self.assertEqual(by_the_document(worths, pairs, way, order), things)

    def test_ways_that_do_not_depend_on_the_order_with_unlike_worths(self):
        worths = (4, 9, 2, 7, 6, 5, 8, 3, 1)
        pairs = ((0, 1), (0, 5), (1, 2), (1, 4), (2, 6), (3, 4), (3, 8), (5, 6), (6, 7))
        heap = Heap(worths, pairs)
        for way in ("best", "lots"):
            expected = by_the_document(worths, pairs, way, tuple(range(9)))
            self.assertEqual(outcomes(heap, way), (expected,))
            self.assertEqual(always_kept(heap, way), ever_kept(heap, way))
            self.assertIsNone(two_orders(heap, way))

    def test_the_orders_that_are_given_back(self):
        worths = (4, 1, 4, 2, 2, 1, 4, 2, 1)
        pairs = ((0, 1), (0, 5), (1, 2), (1, 4), (2, 6), (3, 4), (3, 8), (5, 6), (6, 7))
        heap = Heap(worths, pairs)
        for way in WAYS:
            listed = outcomes(heap, way)
            self.assertEqual(list(listed), sorted(set(listed)))
            for things in listed:
                order = order_for(heap, way, things)
                self.assertTrue(is_an_order(order, 9))
                self.assertEqual(by_the_document(worths, pairs, way, order), things)

    def test_what_many_orders_lead_to_is_listed(self):
        worths = (4, 1, 4, 2, 2, 1, 4, 2, 1)
        pairs = ((0, 1), (0, 5), (1, 2), (1, 4), (2, 6), (3, 4), (3, 8), (5, 6), (6, 7))
        heap = Heap(worths, pairs)
        orders = list(permutations(range(9)))[::397]
        for way in WAYS:
            led_to = {by_the_document(worths, pairs, way, order) for order in orders}
            self.assertLessEqual(led_to, set(outcomes(heap, way)))


class General(unittest.TestCase):
    def test_by_name(self):
        heap = sample_heap()
        self.assertEqual(outcomes(way="first", heap=heap), ((0, 2), (1,)))
        self.assertIs(is_free(way="first", heap=heap), False)
        self.assertEqual(always_kept(way="better", heap=heap), (2,))
        self.assertEqual(ever_kept(way="better", heap=heap), (0, 2))
        self.assertEqual(sizes(way="first", heap=heap), (1, 2))
        self.assertEqual(kept(heap, "first", order_for(things=(1,), way="first", heap=heap)), (1,))
        one, other = two_orders(way="first", heap=heap)
        self.assertNotEqual(kept(heap, "first", one), kept(heap, "first", other))

    def test_equal_calls_lead_to_equal_results_and_change_nothing(self):
        for worths, pairs in larger_heaps()[:3]:
            heap = Heap(worths, pairs)
            for way in WAYS:
                for call in OF_HEAP_AND_WAY:
                    first = call(heap, way)
                    self.assertEqual(call(heap, way), first)
                    self.assertEqual(call(Heap(worths, pairs), way), first)
                for things in outcomes(heap, way):
                    self.assertEqual(order_for(heap, way, things), order_for(Heap(worths, pairs), way, things))
            self.assertEqual(heap, Heap(worths, pairs))

    def test_the_kinds_of_values(self):
        for worths, pairs in larger_heaps():
            heap = Heap(worths, pairs)
            for way in WAYS:
                self.assertIs(type(outcomes(heap, way)), tuple)
                for held in (*outcomes(heap, way), always_kept(heap, way), ever_kept(heap, way), sizes(heap, way)):
                    self.assertIs(type(held), tuple)
                    self.assertTrue(all(type(thing) is int for thing in held))
                    self.assertEqual(list(held), sorted(held))

    def test_where_they_are_defined(self):
        for call in (*OF_HEAP_AND_WAY, order_for):
            self.assertEqual(call.__module__, "keptlikes.orders")


class Wrong(ErrorCase):
    def test_heap_and_way(self):
        for call in OF_HEAP_AND_WAY:
            self.assert_arguments(call, {"heap": sample_heap(), "way": "first"})

    def test_order_for(self):
        for way in WAYS:
            self.assert_arguments(order_for, {"heap": sample_heap(), "way": way, "things": (1,)})


if __name__ == "__main__":
    unittest.main()
