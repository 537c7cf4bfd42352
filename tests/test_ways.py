"""keptlikes.ways: points 3 to 5 and 8, and the section of the interface."""

import inspect
import unittest
from itertools import permutations

from keptlikes.errors import InvalidOrder, InvalidWay, NotAHeap
from keptlikes.heaps import Heap
from keptlikes.ways import kept
from tests.helpers import Equal, ErrorCase, Refusing, all_graphs, all_pairs, deep, strange_values
from tests.oracle import WAYS, by_the_document

LARGE = 10 ** 20 - 1


def path():
    return Heap((1, 2, 3), ((0, 1), (1, 2)))


class Example(unittest.TestCase):
    def test_each_way(self):
        found = [kept(path(), way, (0, 1, 2)) for way in WAYS]
        self.assertEqual(found, [(0, 2), (0,), (2,), (2,), (0, 2), (2,)])

    def test_better_in_the_other_order(self):
        self.assertEqual(kept(path(), "better", (2, 1, 0)), (0, 2))


class EachWay(unittest.TestCase):
    def expect(self, heap, way, rows):
        for order, things in rows:
            with self.subTest(way=way, order=order):
                self.assertEqual(kept(heap, way, order), things)

    def test_first(self):
        self.expect(path(), "first", (
            ((0, 1, 2), (0, 2)), ((0, 2, 1), (0, 2)), ((1, 0, 2), (1,)),
            ((1, 2, 0), (1,)), ((2, 0, 1), (0, 2)), ((2, 1, 0), (0, 2)),
        ))

    def test_earlier_also_looks_at_struck_things(self):
        self.expect(path(), "earlier", (
            ((0, 1, 2), (0,)), ((0, 2, 1), (0, 2)), ((1, 0, 2), (1,)),
            ((1, 2, 0), (1,)), ((2, 0, 1), (0, 2)), ((2, 1, 0), (2,)),
        ))

    def test_newest_strikes_what_is_near_and_kept(self):
        self.expect(path(), "newest", (
            ((0, 1, 2), (2,)), ((0, 2, 1), (1,)), ((1, 0, 2), (0, 2)),
            ((1, 2, 0), (0, 2)), ((2, 0, 1), (1,)), ((2, 1, 0), (0,)),
        ))

    def test_better(self):
        self.expect(path(), "better", (
            ((0, 1, 2), (2,)), ((0, 2, 1), (0, 2)), ((1, 0, 2), (2,)),
            ((1, 2, 0), (0, 2)), ((2, 0, 1), (0, 2)), ((2, 1, 0), (0, 2)),
        ))

    def test_better_has_to_be_better_than_all(self):
        heap = Heap((1, 2, 3), ((0, 1), (1, 2)))
        self.assertEqual(kept(heap, "better", (0, 2, 1)), (0, 2))
        star = Heap((5, 1, 5, 3), ((0, 1), (0, 2), (0, 3)))
        self.assertEqual(kept(star, "better", (1, 2, 3, 0)), (1, 2, 3))
        self.assertEqual(kept(star, "better", (1, 3, 0, 2)), (0,))

    def test_better_strikes_all_that_it_beats(self):
        star = Heap((9, 1, 2, 3, 4), ((0, 1), (0, 2), (0, 3)))
        self.assertEqual(kept(star, "better", (1, 2, 3, 4, 0)), (0, 4))

    def test_a_struck_thing_never_comes_back(self):
        heap = Heap((1, 2, 3), ((0, 1), (1, 2)))
        self.assertEqual(kept(heap, "newest", (0, 1, 2)), (2,))
        self.assertEqual(kept(heap, "better", (0, 1, 2)), (2,))

    def test_best_does_not_depend_on_the_order_with_unlike_worths(self):
        for order in permutations(range(3)):
            self.assertEqual(kept(path(), "best", order), (0, 2))
            self.assertEqual(kept(Heap((1, 3, 2), path().pairs), "best", order), (1,))

    def test_best_brings_struck_things_back(self):
        heap = Heap((1, 2, 3), ((0, 1), (1, 2)))
        self.assertEqual(kept(heap, "best", (0, 1, 2)), (0, 2))

    def test_best_takes_equal_worths_as_they_arrive(self):
        heap = Heap((5, 5, 5, 1), ((0, 1), (1, 2), (2, 3)))
        self.expect(heap, "best", (
            ((3, 1, 0, 2), (1, 3)), ((3, 0, 1, 2), (0, 2)), ((3, 2, 1, 0), (0, 2)), ((1, 2, 3, 0), (1, 3)),
        ))

    def test_lots_keeps_the_greatest_of_each_lot(self):
        heap = Heap((1, 7, 3, 4, 2), ((0, 1), (1, 2), (3, 4)))
        for order in permutations(range(5)):
            self.assertEqual(kept(heap, "lots", order), (1, 3))

    def test_lots_takes_the_first_of_equal_worths(self):
        heap = Heap((5, 1, 5, 2, 2), ((0, 1), (1, 2), (3, 4)))
        self.expect(heap, "lots", (
            ((0, 1, 2, 3, 4), (0, 3)), ((1, 2, 0, 4, 3), (2, 4)), ((4, 2, 3, 1, 0), (2, 4)),
            ((3, 1, 0, 4, 2), (0, 3)),
        ))

    def test_worths_do_not_matter_to_the_first_three(self):
        for way in ("first", "earlier", "newest"):
            for order in permutations(range(3)):
                found = {kept(Heap(worths, path().pairs), way, order)
                         for worths in ((1, 2, 3), (3, 2, 1), (0, 0, 0), (1, 3, 2))}
                self.assertEqual(len(found), 1)


class Edges(unittest.TestCase):
    def test_one_thing(self):
        for way in WAYS:
            self.assertEqual(kept(Heap((0,), ()), way, (0,)), (0,))

    def test_nothing_near(self):
        for way in WAYS:
            self.assertEqual(kept(Heap((2, 1, 2, 0), ()), way, (3, 1, 0, 2)), (0, 1, 2, 3))

    def test_all_near(self):
        heap = Heap((1, 4, 4, 2, 0), all_pairs(5))
        found = [kept(heap, way, (3, 2, 0, 1, 4)) for way in WAYS]
        self.assertEqual(found, [(3,), (3,), (4,), (2,), (2,), (2,)])

    def test_all_near_with_equal_worths(self):
        heap = Heap((7, 7, 7), all_pairs(3))
        found = [kept(heap, way, (1, 2, 0)) for way in WAYS]
        self.assertEqual(found, [(1,), (1,), (0,), (1,), (1,), (1,)])

    def test_nine_things_on_a_line(self):
        heap = Heap.line((1, 2, 3, 4, 5, 6, 7, 8, 9), tuple(range(9)), 1)
        up, down = tuple(range(9)), tuple(range(8, -1, -1))
        even = (0, 2, 4, 6, 8)
        self.assertEqual([kept(heap, way, up) for way in WAYS], [even, (0,), (8,), (8,), even, (8,)])
        self.assertEqual([kept(heap, way, down) for way in WAYS], [even, (8,), (0,), even, even, (8,)])

    def test_nine_things_all_near(self):
        heap = Heap((1, 2, 3, 4, 5, 5, 4, 3, 2), all_pairs(9))
        order = (8, 0, 5, 4, 1, 7, 2, 6, 3)
        self.assertEqual([kept(heap, way, order) for way in WAYS], [(8,), (8,), (3,), (5,), (5,), (5,)])

    def test_worths_of_20_digits(self):
        heap = Heap((LARGE - 1, LARGE, -LARGE, 1 - LARGE), ((0, 1), (2, 3)))
        for way in ("better", "best", "lots"):
            for order in permutations(range(4)):
                self.assertEqual(kept(heap, way, order), (1, 3))

    def test_worths_below_0(self):
        heap = Heap((-3, -2, -1), ((0, 1), (1, 2)))
        found = [kept(heap, way, (0, 1, 2)) for way in WAYS]
        self.assertEqual(found, [(0, 2), (0,), (2,), (2,), (0, 2), (2,)])

    def test_the_set_is_an_ascending_tuple(self):
        for way in WAYS:
            things = kept(Heap((1, 2, 3, 4), ()), way, (2, 0, 3, 1))
            self.assertIs(type(things), tuple)
            self.assertEqual(things, (0, 1, 2, 3))


class AllSmallHeaps(unittest.TestCase):
    def compare(self, worths, count):
        for pairs in all_graphs(count):
            heap = Heap(worths, pairs)
            for way in WAYS:
                for order in permutations(range(count)):
                    expected = by_the_document(worths, pairs, way, order)
                    if kept(heap, way, order) != expected:
                        self.fail(f"{worths} {pairs} {way} {order}: not {expected}")

    def test_up_to_three_things(self):
        for worths in ((0,), (1, 1), (1, 2), (2, 1), (1, 1, 1), (1, 2, 3), (2, 1, 2), (1, 2, 1), (2, 1, 1)):
            self.compare(worths, len(worths))

    def test_four_things(self):
        for worths in ((1, 2, 3, 4), (3, 1, 4, 2), (2, 2, 2, 2), (1, 2, 2, 1)):
            self.compare(worths, 4)


class General(unittest.TestCase):
    def test_by_name(self):
        self.assertEqual(kept(order=(2, 1, 0), way="better", heap=path()), (0, 2))
        self.assertEqual(list(inspect.signature(kept).parameters), ["heap", "way", "order"])
        self.assertEqual(kept.__module__, "keptlikes.ways")

    def test_equal_calls_lead_to_equal_results_and_change_nothing(self):
        heap = path()
        before = (heap.worths, heap.pairs, heap.lots, heap.passes_on)
        for way in WAYS:
            for order in permutations(range(3)):
                self.assertEqual(kept(heap, way, order), kept(path(), way, order))
                self.assertEqual(kept(heap, way, order), kept(heap, way, order))
        self.assertEqual((heap.worths, heap.pairs, heap.lots, heap.passes_on), before)
        self.assertEqual(heap, path())


class Wrong(ErrorCase):
    def test_not_a_heap(self):
        for heap in (*strange_values(), 3, "heap", (), ((1, 2, 3), ((0, 1), (1, 2))), Heap, deep(15)):
            self.assert_value(NotAHeap, heap, kept, heap, "first", (0, 1, 2))
            self.assert_value(NotAHeap, heap, kept, order=(0,), way="first", heap=heap)

    def test_wrong_ways(self):
        wrong = [
            "", "First", "FIRST", " first", "first ", "firs", "second", "better best", "x" * 500, 0, 1,
            ("first",), ["first"], {"first"}, path(), deep(15),
        ]
        for way in (*wrong, *strange_values()):
            self.assert_value(InvalidWay, way, kept, path(), way, (0, 1, 2))
            self.assert_value(InvalidWay, way, kept, order=(0, 1, 2), way=way, heap=path())

    def test_wrong_orders(self):
        wrong = [
            (), (0,), (0, 1), (1, 2), (0, 1, 2, 0), (0, 1, 2, 3), (0, 1, 1), (0, 0, 0), (1, 2, 3), (-1, 0, 1),
            (0, True, 2), (False, 1, 2), (0, 1, None), ("0", "1", "2"), ((0,), (1,), (2,)), (0, 1, [2]),
            (0, 1, Equal()), (0, 1, Refusing()), (0, 1, LARGE), "012", 3, path(), deep(15),
        ]
        for order in (*wrong, *strange_values()):
            for way in WAYS:
                self.assert_value(InvalidOrder, order, kept, path(), way, order)
            self.assert_value(InvalidOrder, order, kept, order=order, way="lots", heap=path())

    def test_orders_of_one_thing(self):
        for order in ((), (1,), (0, 0), (False,), [0], 0):
            self.assert_value(InvalidOrder, order, kept, Heap((1,), ()), "best", order)

    def test_the_first_wrong_argument_is_told(self):
        self.assert_value(NotAHeap, None, kept, None, "no way", ())
        self.assert_value(NotAHeap, None, kept, order=None, way=None, heap=None)
        self.assert_value(InvalidWay, None, kept, path(), None, ())
        self.assert_value(InvalidWay, None, kept, order=None, way=None, heap=path())


if __name__ == "__main__":
    unittest.main()
