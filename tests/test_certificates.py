"""keptlikes.certificates: points 2 to 5, 8 and 9, and the section of the interface."""

import unittest
from itertools import permutations

from keptlikes.certificates import certify_free, certify_kept, certify_property
from keptlikes.checker import holds
from keptlikes.heaps import Heap
from keptlikes.samples import sample_heap
from tests.claims import OPPOSITES, shows
from tests.helpers import ErrorCase, all_pairs, all_sets, larger_heaps, some_heaps
from tests.oracle import NAMES, WAYS, all_outcomes, faults


class Example(unittest.TestCase):
    def test_the_example(self):
        claim, paper = certify_property(sample_heap(), "lots", "covered")
        found = [
            claim, holds(claim, paper), certify_kept(sample_heap(), "best", (1,)),
            certify_free(sample_heap(), "best")[0][0],
        ]
        self.assertEqual(found, [
            ("breaks", (1, 2, 3), ((0, 1), (1, 2)), "lots", "covered"), True,
            (("never", (1, 2, 3), ((0, 1), (1, 2)), "best", (1,)), ()), "free",
        ])


class CertificateCase(unittest.TestCase):
    def assert_certificate(self, found, claim, papers=()):
        """This claim is made, the paper shows it, and no paper shows the opposite."""
        self.assertIs(type(found), tuple)
        claimed, paper = found
        self.assertEqual(claimed, claim)
        self.assertIs(type(claimed), tuple)
        self.assertIs(holds(claimed, paper), True, found)
        opposite = (OPPOSITES[claim[0]], *claim[1:])
        for other in (paper, (), *papers):
            self.assertIs(holds(opposite, other), False, found)


class AgainstAllOrders(CertificateCase):
    """What is claimed is what going through all orders shows."""

    def compare(self, worths, pairs, orders):
        heap = Heap(worths, pairs)
        both = list(zip(orders, orders[1:]))
        for way in WAYS:
            outcomes = all_outcomes(worths, pairs, way)
            about = (worths, pairs, way)
            for things in all_sets(len(worths)):
                word = "kept" if things in outcomes else "never"
                self.assert_certificate(certify_kept(heap, way, things), (word, *about, things), orders)
            for name in NAMES:
                word = "breaks" if faults(worths, pairs, way, name) else "keeps"
                self.assert_certificate(certify_property(heap, way, name), (word, *about, name), orders)
            word = "free" if len(outcomes) == 1 else "counts"
            self.assert_certificate(certify_free(heap, way), (word, *about), both)

    def test_up_to_four_things(self):
        for worths, pairs in some_heaps():
            step = 1 if len(worths) < 4 else 7
            self.compare(worths, pairs, list(permutations(range(len(worths))))[::step])

    def test_all_orders_of_some_heaps_of_four_things(self):
        for worths, pairs in some_heaps()[::11]:
            self.compare(worths, pairs, list(permutations(range(len(worths)))))

    def test_five_and_six_things(self):
        for worths, pairs in larger_heaps():
            self.compare(worths, pairs, list(permutations(range(len(worths))))[::101])

    def test_no_pairs_and_all_pairs_of_five_and_six_things(self):
        for worths in ((1, 2, 3, 4, 5), (2,) * 5, (3, 1, 2, 3, 1, 2)):
            for pairs in ((), all_pairs(len(worths))):
                self.compare(worths, pairs, list(permutations(range(len(worths))))[::101])

    def test_the_papers_are_right_by_the_words_of_the_document(self):
        for worths, pairs in some_heaps()[::3] + larger_heaps():
            heap = Heap(worths, pairs)
            for way in WAYS:
                made = [certify_free(heap, way)]
                made += [certify_property(heap, way, name) for name in NAMES]
                made += [certify_kept(heap, way, things) for things in all_sets(len(worths))[::3]]
                for claim, paper in made:
                    self.assertIs(shows(claim, paper), True)


class Edges(CertificateCase):
    def test_one_thing(self):
        for way in WAYS:
            about = ((4,), (), way)
            self.assertEqual(certify_kept(Heap((4,), ()), way, (0,)), (("kept", *about, (0,)), (0,)))
            self.assertEqual(certify_free(Heap((4,), ()), way), (("free", *about), ()))
            for name in NAMES:
                self.assertEqual(certify_property(Heap((4,), ()), way, name), (("keeps", *about, name), ()))

    def test_nine_things_without_pairs(self):
        worths, everything = (5, 1, 4, 1, 5, 9, 2, 6, 5), tuple(range(9))
        heap = Heap(worths, ())
        for way in WAYS:
            about = (worths, (), way)
            self.assert_certificate(certify_kept(heap, way, everything), ("kept", *about, everything))
            self.assert_certificate(certify_kept(heap, way, (0, 8)), ("never", *about, (0, 8)))
            self.assert_certificate(certify_free(heap, way), ("free", *about))
            for name in NAMES:
                self.assert_certificate(certify_property(heap, way, name), ("keeps", *about, name))

    def test_nine_things_all_near(self):
        worths = (5, 1, 4, 1, 5, 9, 2, 6, 5)
        heap = Heap(worths, all_pairs(9))
        for way in WAYS:
            about = (worths, all_pairs(9), way)
            counts = way in ("first", "earlier", "newest")
            self.assert_certificate(certify_free(heap, way), ("counts" if counts else "free", *about))
            self.assert_certificate(certify_kept(heap, way, (5,)), ("kept", *about, (5,)))
            self.assert_certificate(certify_kept(heap, way, (0,)), ("kept" if counts else "never", *about, (0,)))
            self.assert_certificate(certify_kept(heap, way, (0, 5)), ("never", *about, (0, 5)))
            self.assert_certificate(certify_property(heap, way, "covered"), ("keeps", *about, "covered"))
            for name in ("fair", "just"):
                word = "breaks" if counts else "keeps"
                self.assert_certificate(certify_property(heap, way, name), (word, *about, name))

    def test_nine_things_on_a_line(self):
        heap = Heap.line((1, 2, 3, 4, 5, 6, 7, 8, 9), tuple(range(9)), 1)
        for way in WAYS:
            about = (heap.worths, heap.pairs, way)
            free = way in ("best", "lots")
            self.assert_certificate(certify_free(heap, way), ("free" if free else "counts", *about))
            odd = (0, 2, 4, 6, 8)
            self.assert_certificate(certify_kept(heap, way, odd), ("never" if way == "lots" else "kept", *about, odd))
            self.assert_certificate(certify_kept(heap, way, (0, 1)), ("never", *about, (0, 1)))


class General(unittest.TestCase):
    def test_by_name(self):
        heap = sample_heap()
        self.assertEqual(certify_kept(things=(1,), way="best", heap=heap), certify_kept(heap, "best", (1,)))
        self.assertEqual(certify_property(name="fair", way="best", heap=heap), certify_property(heap, "best", "fair"))
        self.assertEqual(certify_free(way="best", heap=heap), certify_free(heap, "best"))

    def test_equal_calls_lead_to_equal_results_and_change_nothing(self):
        for worths, pairs in larger_heaps()[:4]:
            heap, again = Heap(worths, pairs), Heap(worths, pairs)
            for way in WAYS:
                self.assertEqual(certify_free(heap, way), certify_free(again, way))
                for name in NAMES:
                    self.assertEqual(certify_property(heap, way, name), certify_property(again, way, name))
                for things in all_sets(len(worths)):
                    self.assertEqual(certify_kept(heap, way, things), certify_kept(again, way, things))
            self.assertEqual(heap, again)

    def test_where_they_are_defined(self):
        for call in (certify_kept, certify_property, certify_free):
            self.assertEqual(call.__module__, "keptlikes.certificates")


class Wrong(ErrorCase):
    def test_certify_kept(self):
        self.assert_arguments(certify_kept, {"heap": sample_heap(), "way": "first", "things": (1,)})

    def test_certify_property(self):
        self.assert_arguments(certify_property, {"heap": sample_heap(), "way": "better", "name": "fair"})

    def test_certify_free(self):
        self.assert_arguments(certify_free, {"heap": sample_heap(), "way": "lots"})


if __name__ == "__main__":
    unittest.main()
