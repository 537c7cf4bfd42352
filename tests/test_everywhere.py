"""keptlikes.everywhere: points 2 to 5 and 8, and the section of the interface."""

import inspect
import unittest
from functools import lru_cache
from itertools import permutations, product

from keptlikes.everywhere import agree_always, least_difference
from keptlikes.heaps import Heap
from keptlikes.ways import kept
from tests.helpers import ErrorCase, all_graphs
from tests.oracle import WAYS, both_ways, by_the_document, lot_of

KINDS = tuple(product((False, True), repeat=2))

# These calls look at each argument as the functions do, in each of the kinds.
CALLS = (agree_always, least_difference)


def all_worths(count):
    """The worths of so many things, each sort once: other ones only number the things otherwise."""
    rows = [(0,)]
    for _ in range(count - 1):
        rows = [(*row, row[-1] + more) for row in rows for more in (0, 1)]
    return rows


def nearness_passes_on(count, pairs):
    """What point 7 says of a nearness that passes on."""
    near = both_ways(pairs)
    things = range(count)
    return all((i, j) in near for i in things for j in lot_of(i, near, things) if i != j)


def is_of_kind(worths, pairs, passing, unlike):
    if passing and not nearness_passes_on(len(worths), pairs):
        return False
    return not unlike or len(set(worths)) == len(worths)


def differing_ways(worths, pairs):
    """All pairs of ways that keep different things for some order of the heap."""
    found = set()
    for order in permutations(range(len(worths))):
        held = {way: by_the_document(worths, pairs, way, order) for way in WAYS}
        found |= {(one, other) for one in WAYS for other in WAYS if held[one] != held[other]}
    return found


@lru_cache(maxsize=None)
def least_counts(passing, unlike):
    """For each pair of ways the smallest number of things, of 1 to 4, for which they differ."""
    found = {}
    for count in (1, 2, 3, 4):
        for worths in all_worths(count):
            for pairs in all_graphs(count):
                if is_of_kind(worths, pairs, passing, unlike):
                    for both in differing_ways(worths, pairs):
                        found.setdefault(both, count)
    return found


class Example(unittest.TestCase):
    def test_agree_always(self):
        found = [
            agree_always("first", "earlier"), agree_always("first", "earlier", passing=True),
            agree_always("better", "best", unlike=True), agree_always("lots", "better", passing=True),
        ]
        self.assertEqual(found, [False, True, False, True])

    def test_least_difference(self):
        heap, order = least_difference("better", "best", unlike=True)
        self.assertEqual([
            len(heap), kept(heap, "better", order) == kept(heap, "best", order),
            least_difference("best", "best"), len(least_difference("first", "newest")[0]),
        ], [3, False, None, 2])


class AgainstAllSmallHeaps(unittest.TestCase):
    """All pairs of ways and all kinds, by going through all heaps of up to 4 things."""

    def each_case(self):
        return [(*both, *kind) for kind in KINDS for both in product(WAYS, repeat=2)]

    def test_agree_always(self):
        for case in self.each_case():
            way, other_way, passing, unlike = case
            with self.subTest(case=case):
                expected = (way, other_way) not in least_counts(passing, unlike)
                found = agree_always(way, other_way, passing=passing, unlike=unlike)
                self.assertIs(found, expected)

    def test_the_smallest_number_of_things(self):
        for case in self.each_case():
            way, other_way, passing, unlike = case
            with self.subTest(case=case):
                found = least_difference(way, other_way, passing=passing, unlike=unlike)
                expected = least_counts(passing, unlike).get((way, other_way))
                self.assertEqual(None if found is None else len(found[0]), expected)

    def test_the_ways_do_differ_for_what_is_returned(self):
        for case in self.each_case():
            way, other_way, passing, unlike = case
            found = least_difference(way, other_way, passing=passing, unlike=unlike)
            if found is not None:
                with self.subTest(case=case):
                    self.assert_difference(found, way, other_way)
                    heap, _ = found
                    self.assertTrue(is_of_kind(heap.worths, heap.pairs, passing, unlike))

    def assert_difference(self, found, way, other_way):
        self.assertIs(type(found), tuple)
        heap, order = found
        self.assertIs(type(heap), Heap)
        self.assertIs(type(order), tuple)
        self.assertIn(order, list(permutations(range(len(heap)))))
        held = by_the_document(heap.worths, heap.pairs, way, order)
        self.assertNotEqual(held, by_the_document(heap.worths, heap.pairs, other_way, order))


class LargerHeaps(unittest.TestCase):
    """Ways that are said to agree always do so for five and six things, too."""

    def compare(self, worths, pairs, passing, orders):
        agreeing = [both for both in product(WAYS, repeat=2) if agree_always(*both, passing=passing)]
        for order in orders:
            held = {way: by_the_document.__wrapped__(worths, pairs, way, order) for way in WAYS}
            wrong = [(one, other) for one, other in agreeing if held[one] != held[other]]
            self.assertEqual(wrong, [], (worths, pairs, order))

    def test_five_things(self):
        orders = list(permutations(range(5)))
        for pairs in all_graphs(5):
            if nearness_passes_on(5, pairs):
                for worths in ((1, 2, 3, 4, 5), (2, 2, 2, 2, 2), (1, 2, 2, 1, 2)):
                    self.compare(worths, pairs, True, orders)

    def test_six_things(self):
        lots = ((0, 1), (0, 2), (1, 2), (3, 4), (3, 5), (4, 5))
        for worths in ((1, 2, 3, 3, 2, 1), (2, 2, 1, 1, 2, 2)):
            self.compare(worths, lots, True, list(permutations(range(6)))[::7])


class Edges(unittest.TestCase):
    def test_a_way_agrees_with_itself(self):
        for way in WAYS:
            for passing, unlike in KINDS:
                self.assertIs(agree_always(way, way, passing=passing, unlike=unlike), True)
                self.assertIsNone(least_difference(way, way, passing=passing, unlike=unlike))

    def test_the_groups_if_the_nearness_passes_on(self):
        groups = (("first", "earlier"), ("newest",), ("better", "best", "lots"))
        for unlike in (False, True):
            found = [
                tuple(other for other in WAYS if agree_always(way, other, passing=True, unlike=unlike))
                for way in WAYS
            ]
            self.assertEqual(found, [group for group in groups for _ in group])

    def test_no_two_ways_agree_otherwise(self):
        for unlike in (False, True):
            for way, other_way in permutations(WAYS, 2):
                self.assertIs(agree_always(way, other_way, unlike=unlike), False)

    def test_a_way_and_another_one_may_change_places(self):
        for way, other_way in product(WAYS, repeat=2):
            for passing, unlike in KINDS:
                found = least_difference(way, other_way, passing=passing, unlike=unlike)
                turned = least_difference(other_way, way, passing=passing, unlike=unlike)
                self.assertEqual(found is None, turned is None)
                if found is not None:
                    self.assertEqual(len(found[0]), len(turned[0]))


class General(unittest.TestCase):
    def test_by_name(self):
        self.assertIs(agree_always(unlike=False, passing=True, other_way="first", way="earlier"), True)
        self.assertIs(agree_always(other_way="first", way="earlier"), False)
        found = least_difference(unlike=True, passing=False, other_way="first", way="earlier")
        self.assertEqual(found, least_difference("earlier", "first", unlike=True))

    def test_both_are_false_if_they_are_not_given(self):
        for way, other_way in product(WAYS, repeat=2):
            for call in CALLS:
                self.assertEqual(call(way, other_way), call(way, other_way, passing=False, unlike=False))

    def test_the_kind_is_given_by_name_only(self):
        for call in CALLS:
            self.assertEqual(list(inspect.signature(call).parameters), ["way", "other_way", "passing", "unlike"])
            self.assertRaises(TypeError, call, "first", "earlier", True)
            self.assertRaises(TypeError, call, "first", "earlier", True, True)

    def test_equal_calls_lead_to_equal_results(self):
        for way, other_way in product(WAYS, repeat=2):
            for passing, unlike in KINDS:
                for call in CALLS:
                    found = call(way, other_way, passing=passing, unlike=unlike)
                    self.assertEqual(call(way, other_way, passing=passing, unlike=unlike), found)

    def test_where_they_are_defined(self):
        for call in CALLS:
            self.assertEqual(call.__module__, "keptlikes.everywhere")


class Wrong(ErrorCase):
    def in_kind(self, call, passing, unlike):
        return lambda way, other_way: call(way, other_way=other_way, passing=passing, unlike=unlike)

    def test_ways(self):
        right = {"way": "better", "other_way": "best"}
        for call in CALLS:
            self.assert_arguments(lambda way, other_way: call(way, other_way), right)
            self.assert_arguments(lambda way, other_way: call(other_way=other_way, way=way), right)

    def test_ways_in_all_kinds(self):
        for call in CALLS:
            for passing, unlike in KINDS:
                self.assert_arguments(self.in_kind(call, passing, unlike), {"way": "lots", "other_way": "lots"})


if __name__ == "__main__":
    unittest.main()
