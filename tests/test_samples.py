"""keptlikes.samples: the section of the interface."""

import unittest

from keptlikes.heaps import Heap
from keptlikes.samples import sample_heap


class SampleHeap(unittest.TestCase):
    def test_what_it_is(self):
        self.assertIs(type(sample_heap()), Heap)
        self.assertEqual(sample_heap().worths, (1, 2, 3))
        self.assertEqual(sample_heap().pairs, ((0, 1), (1, 2)))
        self.assertEqual(sample_heap().lots, ((0, 1, 2),))
        self.assertIs(sample_heap().passes_on, False)

    def test_equal_calls_lead_to_equal_results(self):
        self.assertEqual(sample_heap(), sample_heap())
        self.assertEqual(sample_heap(), Heap((1, 2, 3), ((0, 1), (1, 2))))

    def test_it_takes_no_arguments(self):
        with self.assertRaises(TypeError):
            sample_heap(3)
        self.assertEqual(sample_heap.__module__, "keptlikes.samples")


if __name__ == "__main__":
    unittest.main()
