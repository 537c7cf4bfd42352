"""keptlikes.heaps: points 3 to 7 and the section of the interface."""

import inspect
import unittest
from itertools import product
from unittest import mock

from keptlikes.errors import (
    InvalidPairs,
    InvalidPlaces,
    InvalidReach,
    InvalidSet,
    InvalidThing,
    InvalidWords,
    InvalidWorths,
    NotAHeap,
)
from keptlikes.heaps import Heap, check_heap
from tests.helpers import Equal, ErrorCase, Refusing, all_graphs, all_pairs, deep, strange_values

NINE = (1, 2, 3, 4, 5, 6, 7, 8, 9)
LARGE = 10 ** 20 - 1


def path():
    return Heap((1, 2, 3), ((0, 1), (1, 2)))


class Creating(unittest.TestCase):
    def test_worths_and_pairs_are_kept(self):
        heap = Heap((5, -2, 5), ((0, 1), (1, 2)))
        self.assertEqual((heap.worths, heap.pairs), ((5, -2, 5), ((0, 1), (1, 2))))

    def test_by_name(self):
        self.assertEqual(Heap(pairs=((0, 1), (1, 2)), worths=(1, 2, 3)), path())
        self.assertEqual(list(inspect.signature(Heap).parameters), ["worths", "pairs"])

    def test_one_thing(self):
        heap = Heap((0,), ())
        self.assertEqual((len(heap), heap.worths, heap.pairs), (1, (0,), ()))
        self.assertEqual((heap.lots, heap.passes_on, heap.near(0)), (((0,),), True, ()))

    def test_nine_things_without_pairs(self):
        heap = Heap(NINE, ())
        self.assertEqual((len(heap), heap.pairs, heap.passes_on), (9, (), True))
        self.assertEqual(heap.lots, tuple((thing,) for thing in range(9)))
        self.assertEqual([heap.near(thing) for thing in range(9)], [()] * 9)

    def test_nine_things_with_all_pairs(self):
        heap = Heap(NINE, all_pairs(9))
        self.assertEqual((len(heap), len(heap.pairs), heap.passes_on), (9, 36, True))
        self.assertEqual(heap.lots, (tuple(range(9)),))
        self.assertEqual(heap.near(4), (0, 1, 2, 3, 5, 6, 7, 8))

    def test_large_and_equal_worths(self):
        worths = (LARGE, -LARGE, 0, LARGE)
        self.assertEqual(Heap(worths, ()).worths, worths)

    def test_members_are_defined_in_the_class(self):
        for name in ("near", "only", "line", "words", "__len__", "__repr__", "__eq__"):
            self.assertIn(name, vars(Heap))
        self.assertEqual(Heap.__module__, "keptlikes.heaps")

    def test_attributes_are_there_from_the_start(self):
        for name in ("worths", "pairs", "lots", "passes_on"):
            self.assertTrue(hasattr(Heap((1,), ()), name))


class CreatingWrongly(ErrorCase):
    def test_worths_no_tuple(self):
        for worths in (*strange_values(), 3, "123", path()):
            self.assert_index(InvalidWorths, None, Heap, worths, ())

    def test_worths_of_a_wrong_number(self):
        for worths in ((), (*NINE, 10), (None,) * 10, tuple(range(40))):
            self.assert_index(InvalidWorths, None, Heap, worths, ())

    def test_worths_with_a_wrong_element(self):
        for wrong in (*strange_values(), "1", (1,), (), path(), deep(14)):
            self.assert_index(InvalidWorths, 0, Heap, (wrong,), ())
            self.assert_index(InvalidWorths, 1, Heap, (1, wrong, 3), ())
            self.assert_index(InvalidWorths, 8, Heap, (*NINE[:8], wrong), ())

    def test_the_first_wrong_worth_is_told(self):
        self.assert_index(InvalidWorths, 1, Heap, (1, True, None, "x"), ())

    def test_pairs_no_tuple(self):
        for pairs in (*strange_values(), 3, "01", path()):
            self.assert_index(InvalidPairs, None, Heap, (1, 2, 3), pairs)

    def test_pairs_with_a_wrong_element(self):
        wrong = [
            [0, 2], (0,), (), (0, 2, 2), (2, 0), (2, 2), (0, 3), (-1, 2), (-2, -1), (1, 10 ** 19),
            (False, 2), (0, True), ("0", "2"), (0, None), ((0,), 2), "02", 2, deep(14),
        ]
        for pair in (*wrong, *strange_values()):
            self.assert_index(InvalidPairs, 0, Heap, (1, 2, 3), (pair,))
            self.assert_index(InvalidPairs, 1, Heap, (1, 2, 3), ((0, 1), pair, (1, 2)))

    def test_wrong_things_within_a_pair(self):
        for thing in (*strange_values(), "1", (1,), path()):
            self.assert_index(InvalidPairs, 0, Heap, (1, 2, 3), ((0, thing),))
            self.assert_index(InvalidPairs, 0, Heap, (1, 2, 3), ((thing, 2),))

    def test_pairs_twice_or_in_a_wrong_order(self):
        for pairs, index in (
            (((0, 1), (0, 1)), 1),
            (((0, 2), (0, 1)), 1),
            (((1, 2), (0, 2)), 1),
            (((0, 1), (1, 2), (0, 2)), 2),
            (((0, 1), (0, 2), (1, 2), (1, 2)), 3),
            (((0, 2), (0, 1), (5, 5)), 1),
        ):
            self.assert_index(InvalidPairs, index, Heap, (1, 2, 3), pairs)

    def test_more_than_all_pairs(self):
        self.assert_index(InvalidPairs, 36, Heap, NINE, (*all_pairs(9), (7, 8)))
        self.assert_index(InvalidPairs, 0, Heap, (1,), ((0, 1),))
        self.assert_index(InvalidPairs, 0, Heap, (1,), ((0, 0),))

    def test_worths_are_looked_at_before_pairs(self):
        self.assert_index(InvalidWorths, None, Heap, (), None)
        self.assert_index(InvalidWorths, 0, Heap, (None,), ((1, 0),))
        self.assert_index(InvalidWorths, 1, Heap, pairs=None, worths=(1, None))

    def test_wrong_arguments_by_name(self):
        self.assert_index(InvalidPairs, 0, Heap, pairs=((1, 1),), worths=(1, 2))


class Line(ErrorCase):
    def test_the_example(self):
        self.assertEqual(Heap.line((0, 0, 0), (10, 13, 15), 3).pairs, ((0, 1), (1, 2)))

    def test_the_worths_are_kept(self):
        heap = Heap.line((3, 1, -2), (10, 13, 15), 3)
        self.assertEqual(heap, Heap((3, 1, -2), ((0, 1), (1, 2))))
        self.assertIs(type(heap), Heap)

    def test_by_name_and_off_an_object(self):
        self.assertEqual(Heap.line(reach=3, places=(10, 13, 15), worths=(1, 2, 3)), path())
        self.assertEqual(path().line((1, 2, 3), (10, 13, 15), 3), path())
        self.assertEqual(list(inspect.signature(Heap.line).parameters), ["worths", "places", "reach"])
        self.assertIsInstance(vars(Heap)["line"], staticmethod)

    def test_the_reach_itself_is_near(self):
        for reach, pairs in ((0, ()), (1, ()), (2, ((1, 2),)), (4, ((1, 2),)), (5, all_pairs(3)[1:])):
            self.assertEqual(Heap.line((0, 0, 0), (-3, 4, 2), reach).pairs, pairs)
        self.assertEqual(Heap.line((0, 0, 0), (-3, 4, 2), 7).pairs, all_pairs(3))

    def test_reach_0_is_the_same_place(self):
        self.assertEqual(Heap.line((1, 2, 3, 4), (5, 6, 5, 4), 0).pairs, ((0, 2),))

    def test_places_in_any_sequence(self):
        self.assertEqual(Heap.line((1, 2, 3), (9, 1, 5), 4).pairs, ((0, 2), (1, 2)))

    def test_large_places_and_reaches(self):
        places = (-LARGE, LARGE, LARGE - 1)
        self.assertEqual(Heap.line((0, 0, 0), places, 0).pairs, ())
        self.assertEqual(Heap.line((0, 0, 0), places, 1).pairs, ((1, 2),))
        self.assertEqual(Heap.line((0, 0, 0), places, LARGE).pairs, ((1, 2),))
        self.assertEqual(Heap.line((0, 0, 0), places, 2 * LARGE - 1).pairs, ((0, 2), (1, 2)))

    def test_one_and_nine_things(self):
        self.assertEqual(Heap.line((4,), (7,), 0), Heap((4,), ()))
        neighbours = tuple((thing, thing + 1) for thing in range(8))
        self.assertEqual(Heap.line(NINE, NINE, 1), Heap(NINE, neighbours))

    def test_wrong_worths(self):
        for worths, index in (((), None), ([1, 2], None), ((1,) * 10, None), ((1, True), 1), (None, None)):
            self.assert_index(InvalidWorths, index, Heap.line, worths, (1, 2), 1)

    def test_wrong_places(self):
        for places in (*strange_values(), 5, "12", (), (1,), (1, 2, 3), (None,) * 3):
            self.assert_index(InvalidPlaces, None, Heap.line, (1, 2), places, 1)
        for wrong in (*strange_values(), "1", (1,), path()):
            self.assert_index(InvalidPlaces, 0, Heap.line, (1, 2), (wrong, wrong), 1)
            self.assert_index(InvalidPlaces, 1, Heap.line, (1, 2), (1, wrong), 1)

    def test_wrong_reach(self):
        for reach in (*strange_values(), -1, -LARGE, "1", (1,), path(), deep(15)):
            self.assert_value(InvalidReach, reach, Heap.line, (1, 2), (1, 2), reach)
            self.assert_value(InvalidReach, reach, Heap.line, reach=reach, places=(1, 2), worths=(1, 2))

    def test_the_first_wrong_argument_is_told(self):
        self.assert_index(InvalidWorths, None, Heap.line, (), (None,), -1)
        self.assert_index(InvalidWorths, 0, Heap.line, reach=-1, places=None, worths=(None,))
        self.assert_index(InvalidPlaces, 0, Heap.line, (1,), (None,), -1)
        self.assert_index(InvalidPlaces, None, Heap.line, reach=None, places=(), worths=(1,))


class Words(ErrorCase):
    def test_the_example(self):
        self.assertEqual(Heap.words((0, 0, 0), ("rose", "nose", "nos"), 1).pairs, ((0, 1),))

    def test_the_worths_are_kept(self):
        heap = Heap.words((3, 1, -2), ("ab", "cb", "cd"), 1)
        self.assertEqual(heap, Heap((3, 1, -2), ((0, 1), (1, 2))))
        self.assertIs(type(heap), Heap)

    def test_by_name_and_off_an_object(self):
        self.assertEqual(Heap.words(most=1, words=("ab", "cb", "cd"), worths=(1, 2, 3)), path())
        self.assertEqual(path().words((1, 2, 3), ("ab", "cb", "cd"), 1), path())
        self.assertEqual(list(inspect.signature(Heap.words).parameters), ["worths", "words", "most"])
        self.assertIsInstance(vars(Heap)["words"], staticmethod)

    def test_most_counts_places(self):
        words = ("abcd", "abce", "dcba", "abcd")
        self.assertEqual(Heap.words((0,) * 4, words, 0).pairs, ((0, 3),))
        self.assertEqual(Heap.words((0,) * 4, words, 1).pairs, ((0, 1), (0, 3), (1, 3)))
        self.assertEqual(Heap.words((0,) * 4, words, 3).pairs, ((0, 1), (0, 3), (1, 3)))
        self.assertEqual(Heap.words((0,) * 4, words, 4).pairs, all_pairs(4))

    def test_another_length_is_never_near(self):
        self.assertEqual(Heap.words((0, 0, 0), ("", "a", "ab"), LARGE).pairs, ())
        self.assertEqual(Heap.words((0, 0), ("nos", "nose"), 4).pairs, ())

    def test_empty_words_and_20_characters(self):
        self.assertEqual(Heap.words((0, 0), ("", ""), 0).pairs, ((0, 1),))
        words = ("a" * 20, "a" * 19 + "b", "b" * 20)
        self.assertEqual(Heap.words((0, 0, 0), words, 1).pairs, ((0, 1),))
        self.assertEqual(Heap.words((0, 0, 0), words, 19).pairs, ((0, 1), (1, 2)))
        self.assertEqual(Heap.words((0, 0, 0), words, 20).pairs, all_pairs(3))

    def test_capitals_blanks_and_other_characters_differ(self):
        self.assertEqual(Heap.words((0,) * 4, ("a ", "A ", "a_", "\u00e4 "), 0).pairs, ())

    def test_one_and_nine_things(self):
        self.assertEqual(Heap.words((4,), ("",), 0), Heap((4,), ()))
        self.assertEqual(Heap.words(NINE, tuple("abcdefghi"), 1), Heap(NINE, all_pairs(9)))

    def test_wrong_worths(self):
        for worths, index in (((), None), ([1, 2], None), ((1,) * 10, None), ((1, True), 1), (None, None)):
            self.assert_index(InvalidWorths, index, Heap.words, worths, ("a", "b"), 1)

    def test_wrong_words(self):
        for words in (*strange_values(), 5, "ab", ["a", "b"], (), ("a",), ("a", "b", "c"), (None,) * 3):
            self.assert_index(InvalidWords, None, Heap.words, (1, 2), words, 1)
        for wrong in (*strange_values(), 1, ("a",), path(), "a" * 21, "b" * 500):
            self.assert_index(InvalidWords, 0, Heap.words, (1, 2), (wrong, wrong), 1)
            self.assert_index(InvalidWords, 1, Heap.words, (1, 2), ("a", wrong), 1)

    def test_wrong_most(self):
        for most in (*strange_values(), -1, -LARGE, "1", (1,), path(), deep(15)):
            self.assert_value(InvalidReach, most, Heap.words, (1, 2), ("a", "b"), most)
            self.assert_value(InvalidReach, most, Heap.words, most=most, words=("a", "b"), worths=(1, 2))

    def test_the_first_wrong_argument_is_told(self):
        self.assert_index(InvalidWorths, None, Heap.words, (), (None,), -1)
        self.assert_index(InvalidWorths, 0, Heap.words, most=-1, words=None, worths=(None,))
        self.assert_index(InvalidWords, 0, Heap.words, (1,), (None,), -1)
        self.assert_index(InvalidWords, None, Heap.words, most=None, words=(), worths=(1,))


def closure(count, pairs):
    """All pairs of things that steps from near to near lead from one to the other."""
    linked = {(thing, thing) for thing in range(count)} | set(pairs) | {(j, i) for i, j in pairs}
    for between, start, end in product(range(count), repeat=3):
        if (start, between) in linked and (between, end) in linked:
            linked.add((start, end))
    return linked


class LotsAndPassing(unittest.TestCase):
    def test_the_example(self):
        self.assertEqual((path().lots, path().passes_on), (((0, 1, 2),), False))

    def test_several_lots(self):
        heap = Heap((0,) * 7, ((0, 4), (1, 3), (2, 6), (3, 5)))
        self.assertEqual(heap.lots, ((0, 4), (1, 3, 5), (2, 6)))
        self.assertIs(heap.passes_on, False)

    def test_a_lot_in_which_later_things_link_earlier_ones(self):
        heap = Heap((0,) * 5, ((0, 4), (1, 3), (2, 3), (2, 4)))
        self.assertEqual(heap.lots, ((0, 1, 2, 3, 4),))

    def test_lots_that_are_all_near(self):
        heap = Heap((0,) * 6, ((0, 2), (0, 5), (1, 4), (2, 5)))
        self.assertEqual((heap.lots, heap.passes_on), (((0, 2, 5), (1, 4), (3,)), True))

    def test_one_pair_too_few(self):
        for missing in all_pairs(9):
            pairs = tuple(pair for pair in all_pairs(9) if pair != missing)
            heap = Heap(NINE, pairs)
            self.assertEqual((heap.lots, heap.passes_on), ((tuple(range(9)),), False))

    def test_a_ring_does_not_pass_on(self):
        heap = Heap((0,) * 4, ((0, 1), (0, 3), (1, 2), (2, 3)))
        self.assertEqual((heap.lots, heap.passes_on), (((0, 1, 2, 3),), False))

    def test_a_long_path_is_one_lot(self):
        heap = Heap.line(NINE, (3, 9, 1, 7, 5, 2, 8, 4, 6), 1)
        self.assertEqual((heap.lots, heap.passes_on), ((tuple(range(9)),), False))

    def test_all_small_heaps(self):
        for count in range(1, 5):
            for pairs in all_graphs(count):
                heap = Heap((0,) * count, pairs)
                linked = closure(count, pairs)
                lots = {tuple(j for j in range(count) if (i, j) in linked) for i in range(count)}
                self.assertEqual(heap.lots, tuple(sorted(lots)))
                passes = all((i, j) in pairs for i, j in linked if i < j)
                self.assertIs(heap.passes_on, passes)


class Near(ErrorCase):
    def test_the_example(self):
        self.assertEqual(path().near(1), (0, 2))

    def test_both_ends_of_each_pair(self):
        for pairs in all_graphs(4):
            heap = Heap((0,) * 4, pairs)
            for thing in range(4):
                both = {i for i, j in pairs if j == thing} | {j for i, j in pairs if i == thing}
                self.assertEqual(heap.near(thing), tuple(sorted(both)))

    def test_by_name(self):
        self.assertEqual(path().near(thing=0), (1,))
        self.assertEqual(list(inspect.signature(path().near).parameters), ["thing"])

    def test_wrong_things(self):
        for thing in (*strange_values(), -1, 3, LARGE, -LARGE, "0", "", (0,), (), path(), deep(15)):
            self.assert_value(InvalidThing, thing, path().near, thing)
            self.assert_value(InvalidThing, thing, path().near, thing=thing)


class Only(ErrorCase):
    def test_the_example(self):
        self.assertEqual(repr(path().only((1, 2))), "Heap(2 things, 1 pairs)")

    def test_numbered_anew(self):
        heap = Heap((10, 11, 12, 13, 14), ((0, 1), (0, 4), (1, 3), (3, 4)))
        self.assertEqual(heap.only((1, 3, 4)), Heap((11, 13, 14), ((0, 1), (1, 2))))
        self.assertEqual(heap.only((0, 2, 4)), Heap((10, 12, 14), ((0, 2),)))
        self.assertEqual(heap.only((2, 3)), Heap((12, 13), ()))
        self.assertEqual(heap.only((4,)), Heap((14,), ()))
        self.assertIs(type(heap.only((4,))), Heap)

    def test_lots_are_those_of_the_part(self):
        part = path().only((0, 2))
        self.assertEqual((part.lots, part.passes_on, part.near(0)), (((0,), (1,)), True, ()))

    def test_all_things(self):
        for pairs in all_graphs(4):
            heap = Heap((4, 3, 2, 1), pairs)
            self.assertEqual(heap.only((0, 1, 2, 3)), heap)

    def test_the_heap_itself_stays_as_it_was(self):
        heap = path()
        heap.only((0, 2))
        self.assertEqual((heap, heap.lots, heap.near(1)), (path(), ((0, 1, 2),), (0, 2)))

    def test_by_name(self):
        self.assertEqual(path().only(things=(0, 1)), Heap((1, 2), ((0, 1),)))
        self.assertEqual(list(inspect.signature(path().only).parameters), ["things"])

    def test_wrong_sets(self):
        wrong = [
            (), (1, 0), (0, 0), (0, 2, 1), (0, 1, 1), (0, 3), (-1, 0), (3,), (True,), (False, 1), (0, True),
            (None,), ("0",), ((0,),), ([0],), (Equal(),), (Refusing(),), (0, LARGE), 0, 1, "0", "012",
            path(), deep(15),
        ]
        for things in (*wrong, *strange_values()):
            self.assert_value(InvalidSet, things, path().only, things)
            self.assert_value(InvalidSet, things, path().only, things=things)


class LengthWordsAndEquality(unittest.TestCase):
    def test_length_and_truth(self):
        for count in range(1, 10):
            heap = Heap((0,) * count, ())
            self.assertEqual(len(heap), count)
            self.assertIs(bool(heap), True)

    def test_repr(self):
        self.assertEqual(repr(path()), "Heap(3 things, 2 pairs)")
        self.assertEqual(repr(Heap((1,), ())), "Heap(1 things, 0 pairs)")
        self.assertEqual(repr(Heap((1, 1), ((0, 1),))), "Heap(2 things, 1 pairs)")
        self.assertEqual(repr(Heap(NINE, all_pairs(9))), "Heap(9 things, 36 pairs)")

    def test_equal_heaps(self):
        heap = path()
        for other in (heap, path(), Heap.line((1, 2, 3), (0, 1, 2), 1)):
            self.assertIs(heap == other, True)
            self.assertIs(heap != other, False)

    def test_other_heaps(self):
        others = (
            Heap((1, 2, 4), ((0, 1), (1, 2))),
            Heap((3, 2, 1), ((0, 1), (1, 2))),
            Heap((1, 2, 3), ((0, 1),)),
            Heap((1, 2, 3), ((0, 1), (0, 2))),
            Heap((1, 2, 3, 4), ((0, 1), (1, 2))),
        )
        for other in others:
            self.assertIs(path() == other, False)
            self.assertIs(path() != other, True)

    def test_all_small_heaps_are_told_apart(self):
        heaps = [Heap(worths, pairs) for worths in ((1, 2, 3), (1, 1, 2)) for pairs in all_graphs(3)]
        for at, heap in enumerate(heaps):
            self.assertEqual([heap == other for other in heaps], [at == place for place in range(len(heaps))])

    def test_equal_to_nothing_else(self):
        strange = [value for value in strange_values() if not isinstance(value, Refusing)]
        more = [((1, 2, 3), ((0, 1), (1, 2))), (1, 2, 3), 3, "Heap(3 things, 2 pairs)", mock.ANY, Heap]
        look_alike = mock.Mock(worths=(1, 2, 3), pairs=((0, 1), (1, 2)))
        for other in (*strange, *more, look_alike, Refusing()):
            self.assertIs(path() == other, False)
            self.assertIs(path() != other, True)


class CheckingHeaps(ErrorCase):
    def test_only_heaps_pass(self):
        self.assertIsNone(check_heap(path()))
        for value in (*strange_values(), 3, "heap", (), ((1,), ()), Heap):
            self.assert_value(NotAHeap, value, check_heap, value)


if __name__ == "__main__":
    unittest.main()
