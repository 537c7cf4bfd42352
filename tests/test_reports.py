"""keptlikes.reports: points 2 to 5, 8 and 9, and the section of the interface."""

import inspect
import unittest

from keptlikes.heaps import Heap
from keptlikes.reports import property_table, way_table
from keptlikes.samples import sample_heap
from tests.helpers import ErrorCase, all_pairs, larger_heaps, some_heaps
from tests.oracle import NAMES, WAYS, all_outcomes, faults

TABLES = (way_table, property_table)


def expected_ways(worths, pairs):
    lines = []
    for way in WAYS:
        sets = [",".join(map(str, held)) for held in all_outcomes(worths, pairs, way)]
        lines.append(way + ": " + " ".join(sets))
    return "\n".join(lines)


def expected_properties(worths, pairs):
    lines = []
    for way in WAYS:
        names = [name for name in NAMES if faults(worths, pairs, way, name)]
        lines.append(way + ": " + (",".join(names) or "none"))
    return "\n".join(lines)


class Example(unittest.TestCase):
    def test_the_example(self):
        found = [way_table(sample_heap()).split("\n")[3:], property_table(sample_heap()).split("\n")[3:5]]
        self.assertEqual(found, [
            ["better: 0,2 2", "best: 0,2", "lots: 2"], ["better: covered,fair,just", "best: just"],
        ])

    def test_the_whole_tables(self):
        self.assertEqual(way_table(sample_heap()), (
            "first: 0,2 1\nearlier: 0 0,2 1 2\nnewest: 0 0,2 1 2\nbetter: 0,2 2\nbest: 0,2\nlots: 2"))
        self.assertEqual(property_table(sample_heap()), (
            "first: fair,just\nearlier: covered,fair,just\nnewest: covered,fair,just\n"
            "better: covered,fair,just\nbest: just\nlots: covered,fair"))


class AgainstAllOrders(unittest.TestCase):
    def compare(self, worths, pairs):
        heap = Heap(worths, pairs)
        with self.subTest(worths=worths, pairs=pairs):
            self.assertEqual(way_table(heap), expected_ways(worths, pairs))
            self.assertEqual(property_table(heap), expected_properties(worths, pairs))

    def test_up_to_four_things(self):
        for worths, pairs in some_heaps():
            self.compare(worths, pairs)

    def test_five_and_six_things(self):
        for worths, pairs in larger_heaps():
            self.compare(worths, pairs)


class Edges(unittest.TestCase):
    def assert_each_way(self, call, heap, ends):
        self.assertEqual(call(heap), "\n".join(f"{way}: {end}" for way, end in zip(WAYS, ends)))

    def test_one_thing(self):
        self.assert_each_way(way_table, Heap((7,), ()), ["0"] * 6)
        self.assert_each_way(property_table, Heap((7,), ()), ["none"] * 6)

    def test_nine_things_without_pairs(self):
        heap = Heap((5, 1, 4, 1, 5, 9, 2, 6, 5), ())
        self.assert_each_way(way_table, heap, ["0,1,2,3,4,5,6,7,8"] * 6)
        self.assert_each_way(property_table, heap, ["none"] * 6)

    def test_nine_things_all_near(self):
        heap = Heap((1, 2, 3, 4, 5, 6, 7, 8, 9), all_pairs(9))
        self.assert_each_way(way_table, heap, ["0 1 2 3 4 5 6 7 8"] * 3 + ["8"] * 3)
        self.assert_each_way(property_table, heap, ["fair,just"] * 3 + ["none"] * 3)

    def test_nine_things_all_near_with_equal_worths(self):
        heap = Heap((1,) * 9, all_pairs(9))
        self.assert_each_way(way_table, heap, ["0 1 2 3 4 5 6 7 8"] * 6)
        self.assert_each_way(property_table, heap, ["none"] * 6)


class General(unittest.TestCase):
    def test_by_name(self):
        for call in TABLES:
            self.assertEqual(call(heap=sample_heap()), call(sample_heap()))
            self.assertEqual(list(inspect.signature(call).parameters), ["heap"])

    def test_equal_calls_lead_to_equal_results_and_change_nothing(self):
        for worths, pairs in larger_heaps():
            heap = Heap(worths, pairs)
            for call in TABLES:
                self.assertEqual(call(heap), call(Heap(worths, pairs)))
            self.assertEqual(heap, Heap(worths, pairs))

    def test_they_are_texts(self):
        for call in TABLES:
            text = call(sample_heap())
            self.assertIs(type(text), str)
            self.assertEqual(len(text.split("\n")), 6)
            self.assertEqual(call.__module__, "keptlikes.reports")


class Wrong(ErrorCase):
    def test_no_heap(self):
        for call in TABLES:
            self.assert_arguments(call, {"heap": sample_heap()})


if __name__ == "__main__":
    unittest.main()
