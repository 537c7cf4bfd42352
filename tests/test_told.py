"""keptlikes.told: points 2 to 5 and 8, and the section of the interface."""

import inspect
import unittest
from functools import lru_cache
from itertools import combinations, permutations, product

from keptlikes.errors import InvalidCount, InvalidRows
from keptlikes.told import told_near
from tests.helpers import (
    Equal,
    ErrorCase,
    Refusing,
    all_graphs,
    all_pairs,
    all_sets,
    deep,
    strange_values,
    wrong_arguments,
)
from tests.oracle import by_the_document

NINE = tuple(range(9))


@lru_cache(maxsize=None)
def kept_by_first(count, pairs, order):
    """What `first` keeps; it does not look at worths."""
    return by_the_document.__wrapped__((0,) * count, pairs, "first", order)


def fits(count, pairs, rows):
    return all(kept_by_first(count, pairs, order) == held for order, held in rows)


def told(count, rows):
    """What the document says, by going through all nearnesses."""
    fitting = [set(pairs) for pairs in all_graphs(count) if fits(count, pairs, rows)]
    if not fitting:
        return None
    in_all = tuple(pair for pair in all_pairs(count) if all(pair in pairs for pairs in fitting))
    in_none = tuple(pair for pair in all_pairs(count) if all(pair not in pairs for pairs in fitting))
    others = tuple(pair for pair in all_pairs(count) if pair not in in_all and pair not in in_none)
    return in_all, in_none, others


def all_rows(count):
    """All rows, those that no nearness fits among them."""
    return list(product(permutations(range(count)), [(), *all_sets(count)]))


def right_rows(count, pairs, orders):
    """The rows that a nearness leads to."""
    return tuple((order, kept_by_first(count, pairs, order)) for order in orders)


class Example(unittest.TestCase):
    def test_told_near(self):
        self.assertEqual(
            [
                told_near(3, (((0, 1, 2), (0, 2)),)), told_near(3, (((0, 1, 2), (0, 1)),)),
                told_near(3, (((0, 1, 2), (0, 1)), ((2, 0, 1), (0, 2)))), told_near(2, (((0, 1), (1,)),)),
            ],
            [
                (((0, 1),), ((0, 2),), ((1, 2),)), ((), ((0, 1),), ((0, 2), (1, 2))),
                (((1, 2),), ((0, 1), (0, 2)), ()), None,
            ],
        )


class AgainstAllNearnesses(unittest.TestCase):
    def compare(self, count, rows):
        expected = told(count, rows)
        found = told_near(count, rows)
        if found != expected:
            self.fail(f"{count} {rows}: {found}, not {expected}")

    def test_no_rows(self):
        for count in (1, 2, 3, 4):
            self.compare(count, ())

    def test_one_row(self):
        for count in (1, 2, 3, 4):
            for row in all_rows(count):
                self.compare(count, (row,))

    def test_two_rows(self):
        for count in (1, 2, 3):
            for rows in product(all_rows(count), repeat=2):
                self.compare(count, rows)

    def test_three_rows_of_two_things(self):
        for rows in product(all_rows(2), repeat=3):
            self.compare(2, rows)

    def test_some_rows_of_four_things(self):
        rows = all_rows(4)
        for place in range(0, len(rows), 5):
            self.compare(4, (rows[place], rows[place * 7 % len(rows)]))
            self.compare(4, (rows[place], rows[place * 11 % len(rows)], rows[place * 17 % len(rows)]))

    def test_rows_of_each_nearness_of_four_things(self):
        orders = list(permutations(range(4)))
        for at, pairs in enumerate(all_graphs(4)):
            for many in (1, 2, 3, 5, 20):
                chosen = [orders[(at + 7 * step) % 24] for step in range(many)]
                self.compare(4, right_rows(4, pairs, chosen))

    def test_one_row_of_another_nearness(self):
        orders = list(permutations(range(4)))
        graphs = all_graphs(4)
        for at, pairs in enumerate(graphs):
            other = graphs[at * 5 % len(graphs)]
            rows = right_rows(4, pairs, orders[at % 5::6]) + right_rows(4, other, orders[at % 7:at % 7 + 1])
            self.compare(4, rows)
            self.compare(4, rows[::-1])


class NineThings(unittest.TestCase):
    def assert_right(self, rows, found):
        """Each pair is where it belongs, as two nearnesses that fit or do not fit show."""
        in_all, in_none, others = found
        self.assertEqual(tuple(sorted(in_all + in_none + others)), all_pairs(9))
        for part in found:
            self.assertEqual(part, tuple(sorted(set(part))))
        widest = tuple(sorted(in_all + others))
        self.assertTrue(fits(9, widest, rows))
        for pair in widest:
            without = tuple(other for other in widest if other != pair)
            self.assertIs(fits(9, without, rows), pair in others)
        for pair in in_none:
            self.assertTrue(any(set(pair) <= set(held) for _, held in rows))

    def test_no_rows(self):
        self.assertEqual(told_near(9, ()), ((), (), all_pairs(9)))

    def test_all_are_kept(self):
        self.assertEqual(told_near(9, ((NINE, NINE),)), ((), all_pairs(9), ()))

    def test_one_is_kept(self):
        near = tuple((0, thing) for thing in range(1, 9))
        others = tuple(pair for pair in all_pairs(9) if pair[0] > 0)
        self.assertEqual(told_near(9, ((NINE, (0,)),)), (near, (), others))

    def test_twenty_rows(self):
        graphs = [
            tuple((thing, thing + 1) for thing in range(8)), ((0, 8), (1, 7), (2, 6)), all_pairs(9),
            tuple(pair for pair in all_pairs(9) if sum(pair) % 3 == 0), (),
            tuple(pair for pair in all_pairs(9) if pair[0] * pair[1] % 4 == 1),
        ]
        orders = list(permutations(range(9)))[17::9973][:20]
        self.assertEqual(len(orders), 20)
        for pairs in graphs:
            for many in (1, 3, 9, 20):
                rows = right_rows(9, pairs, orders[:many])
                found = told_near(9, rows)
                self.assert_right(rows, found)
                self.assertLessEqual(set(found[0]), set(pairs))
                self.assertFalse(set(found[1]) & set(pairs))

    def test_twenty_rows_that_no_nearness_fits(self):
        pairs = tuple((thing, thing + 1) for thing in range(8))
        orders = list(permutations(range(9)))[17::9973][:19]
        rows = right_rows(9, pairs, orders)
        self.assertIsNone(told_near(9, (*rows, (NINE, NINE))))
        self.assertIsNone(told_near(9, ((NINE, NINE), *rows)))
        self.assertIsNone(told_near(9, (*rows, (NINE, ()))))


class Edges(unittest.TestCase):
    def test_one_thing(self):
        self.assertEqual(told_near(1, ()), ((), (), ()))
        self.assertEqual(told_near(1, (((0,), (0,)),)), ((), (), ()))
        self.assertIsNone(told_near(1, (((0,), ()),)))

    def test_an_empty_set_is_a_set_that_no_nearness_fits(self):
        for count in range(1, 10):
            order = tuple(range(count))
            self.assertIsNone(told_near(count, ((order, ()),)))
            self.assertIsNone(told_near(count, ((order, (0,)), (order[::-1], ()))))

    def test_the_first_thing_is_always_kept(self):
        self.assertIsNone(told_near(3, (((2, 0, 1), (0, 1)),)))

    def test_rows_that_contradict_one_another(self):
        self.assertIsNone(told_near(3, (((0, 1, 2), (0, 1, 2)), ((2, 1, 0), (2,)))))
        self.assertIsNone(told_near(2, (((0, 1), (0, 1)), ((0, 1), (0,)))))

    def test_the_same_row_twice(self):
        row = ((0, 1, 2), (0, 2))
        self.assertEqual(told_near(3, (row,) * 20), told_near(3, (row,)))

    def test_a_choice_that_another_row_narrows(self):
        # Thing 2 is near 0 or 1; the second row says that it is not near 0.
        self.assertEqual(told_near(3, (((0, 1, 2), (0, 1)),))[2], ((0, 2), (1, 2)))
        found = told_near(3, (((0, 1, 2), (0, 1)), ((0, 2, 1), (0, 2))))
        self.assertEqual(found, (((1, 2),), ((0, 1), (0, 2)), ()))


class General(unittest.TestCase):
    def test_by_name(self):
        rows = (((0, 1, 2), (0, 2)),)
        self.assertEqual(told_near(rows=rows, count=3), told_near(3, rows))
        self.assertEqual(list(inspect.signature(told_near).parameters), ["count", "rows"])
        self.assertEqual(told_near.__module__, "keptlikes.told")

    def test_equal_calls_lead_to_equal_results(self):
        for rows in combinations(all_rows(3), 2):
            again = tuple((tuple(list(order)), tuple(list(held))) for order, held in rows)
            self.assertEqual(told_near(3, rows), told_near(3, again))

    def test_the_kinds_of_values(self):
        found = told_near(3, (((0, 1, 2), (0, 1)),))
        self.assertIs(type(found), tuple)
        for part in found:
            self.assertIs(type(part), tuple)
            for pair in part:
                self.assertIs(type(pair), tuple)


class Wrong(ErrorCase):
    def wrong_rows(self):
        """What is no row of 3 things."""
        order, held = (0, 1, 2), (0, 2)
        orders = [
            (), (0, 1), (0, 1, 2, 3), (0, 1, 1), (1, 2, 3), (-1, 0, 1), (0, True, 2), (False, 1, 2),
            (0, 1, None), ("0", "1", "2"), [0, 1, 2], (0, 1, [2]), (0, 1, Equal()), (0, 1, Refusing()),
            "012", 3, None, deep(13),
        ]
        sets = [
            (2, 0), (0, 0), (0, 3), (-1, 0), (0, True), (False, 2), (0, None), ("0",), [0, 2], {0, 2},
            (0, [2]), (Equal(),), (Refusing(),), (0, 1, 2, 2), "02", 2, None, deep(13),
        ]
        rows = [(wrong, held) for wrong in orders] + [(order, wrong) for wrong in sets]
        shapes = [
            (), (order,), (order, held, held), [order, held], (held, order), order, held, "ab", {0: order, 1: held},
            3, "", deep(14),
        ]
        return rows + shapes + strange_values()

    def test_count(self):
        error, values = wrong_arguments()["count"]
        self.assertIs(error, InvalidCount)
        for rows in ((), [], None, (None,), (((0, 1, 2), (0, 2)),), ((),) * 21):
            for count in values:
                self.assert_value(InvalidCount, count, told_near, count, rows)
                self.assert_value(InvalidCount, count, told_near, rows=rows, count=count)

    def test_rows_no_tuple(self):
        row = ((0, 1, 2), (0, 2))
        for rows in (*strange_values(), [row], [], {0: row}, 3, "rows", iter((row,))):
            self.assert_index(InvalidRows, None, told_near, 3, rows)
            self.assert_index(InvalidRows, None, told_near, rows=rows, count=3)

    def test_more_than_twenty_rows(self):
        row = ((0, 1, 2), (0, 2))
        self.assertEqual(told_near(3, (row,) * 20), told_near(3, (row,)))
        for rows in ((row,) * 21, (row,) * 500, (None,) * 21, (row,) * 20 + (None,), (None, *(row,) * 20)):
            self.assert_index(InvalidRows, None, told_near, 3, rows)

    def test_a_wrong_row(self):
        row = ((0, 1, 2), (0, 2))
        for wrong in self.wrong_rows():
            self.assert_index(InvalidRows, 0, told_near, 3, (wrong,))
            self.assert_index(InvalidRows, 1, told_near, 3, (row, wrong, row))
            self.assert_index(InvalidRows, 19, told_near, 3, (row,) * 19 + (wrong,))

    def test_the_first_wrong_row_is_told(self):
        row = ((0, 1, 2), (0, 2))
        self.assert_index(InvalidRows, 1, told_near, 3, (row, None, row, (), None))

    def test_rows_of_another_number_of_things(self):
        for count in (1, 2, 4, 9):
            self.assert_index(InvalidRows, 0, told_near, count, (((0, 1, 2), (0, 2)),))

    def test_a_wrong_row_is_told_even_if_no_nearness_fits(self):
        self.assert_index(InvalidRows, 1, told_near, 3, (((0, 1, 2), ()), None))

    def test_rows_are_taken_with_the_things_as_they_are(self):
        self.assertEqual(told_near(1, (((0,), (0,)),)), ((), (), ()))
        self.assert_index(InvalidRows, 0, told_near, 1, (((False,), (0,)),))
        self.assert_index(InvalidRows, 0, told_near, 1, (((0,), (False,)),))


if __name__ == "__main__":
    unittest.main()
