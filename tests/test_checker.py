"""keptlikes.checker: points 2 to 5, 8 and 9, and the section of the interface."""

import inspect
import unittest
from itertools import permutations

from keptlikes.checker import holds
from keptlikes.heaps import Heap
from tests.claims import OPPOSITES, all_claims, all_papers, bent, odd_ones, shows
from tests.helpers import all_graphs, all_pairs, deep, larger_heaps, some_heaps, strange_values
from tests.oracle import NAMES, WAYS, by_the_document

WORTHS, PAIRS = (1, 2, 3), ((0, 1), (1, 2))

# For each form a claim that is true, and a paper that shows it.
SHOWN = (
    (("kept", WORTHS, PAIRS, "first", (0, 2)), (0, 1, 2)),
    (("never", WORTHS, PAIRS, "first", (2,)), ()),
    (("breaks", WORTHS, PAIRS, "better", "covered"), (0, 1, 2)),
    (("keeps", WORTHS, PAIRS, "best", "fair"), ()),
    (("counts", WORTHS, PAIRS, "newest"), ((0, 1, 2), (2, 1, 0))),
    (("free", WORTHS, PAIRS, "lots"), ()),
)


class CheckerCase(unittest.TestCase):
    def compare(self, claim, paper):
        expected = shows(claim, paper)
        found = holds(claim, paper)
        if found is not expected:
            self.fail(f"{claim!r}, {paper!r}: not {expected}")
        return expected


class EachForm(CheckerCase):
    def test_a_paper_that_shows_the_claim(self):
        for claim, paper in SHOWN:
            with self.subTest(claim=claim):
                self.assertIs(holds(claim, paper), True)
                self.assertIs(shows(claim, paper), True)

    def test_the_opposite_claim(self):
        for claim, _ in SHOWN:
            opposite = (OPPOSITES[claim[0]], *claim[1:])
            for paper in all_papers(3):
                self.assertIs(holds(opposite, paper), False)

    def test_each_right_paper(self):
        for claim, _ in SHOWN:
            right = [paper for paper in all_papers(3) if shows(claim, paper)]
            self.assertGreater(len(right), 0)
            for paper in all_papers(3):
                self.assertIs(holds(claim, paper), paper in right)

    def test_the_paper_of_another_form(self):
        for claim, paper in SHOWN:
            for _, other in SHOWN:
                self.compare(claim, other)
                if (len(paper), len(other)) in ((0, 2), (0, 3), (2, 0), (2, 3), (3, 0), (3, 2)):
                    self.assertIs(holds(claim, other), False)

    def test_the_pair_of_orders_may_be_turned(self):
        claim = ("counts", WORTHS, PAIRS, "newest")
        self.assertIs(holds(claim, ((2, 1, 0), (0, 1, 2))), True)
        self.assertIs(holds(claim, ((0, 1, 2), (0, 1, 2))), False)
        self.assertIs(holds(claim, ((0, 1, 2), (1, 0, 2))), True)


class AgainstAllOrders(CheckerCase):
    """All claims with all papers, held against the words of the document."""

    def compare_all(self, worths, pairs, papers):
        for claim in all_claims(worths, pairs):
            shown = [paper for paper in papers if self.compare(claim, paper)]
            opposite = (OPPOSITES[claim[0]], *claim[1:])
            # Of a claim and its opposite, one is true, and some paper shows it.
            self.assertNotEqual(shown != [], any(holds(opposite, paper) for paper in papers), claim)

    def test_up_to_two_things(self):
        for worths in ((0,), (7,), (1, 1), (1, 2), (2, 1)):
            for pairs in all_graphs(len(worths)):
                self.compare_all(worths, pairs, all_papers(len(worths)))

    def test_three_things(self):
        for worths in ((1, 1, 1), (1, 2, 3), (3, 1, 2), (2, 1, 2), (1, 2, 1)):
            for pairs in all_graphs(3):
                self.compare_all(worths, pairs, all_papers(3))

    def test_four_things(self):
        orders = list(permutations(range(4)))
        papers = [(), *orders, *[(orders[at % 24], orders[at * 5 % 24]) for at in range(72)]]
        for worths, pairs in [heap for heap in some_heaps() if len(heap[0]) == 4][::13]:
            for claim in all_claims(worths, pairs):
                for paper in papers:
                    self.compare(claim, paper)

    def test_five_and_six_things(self):
        for worths, pairs in larger_heaps():
            orders = list(permutations(range(len(worths))))[::37]
            papers = [(), *orders, *zip(orders, orders[1:])]
            for claim in all_claims(worths, pairs):
                for paper in papers[:1 if claim[0] == "never" else None]:
                    self.compare(claim, paper)


class NineThings(unittest.TestCase):
    def test_no_pairs(self):
        worths, everything = (5, 1, 4, 1, 5, 9, 2, 6, 5), tuple(range(9))
        for way in WAYS:
            self.assertIs(holds(("kept", worths, (), way, everything), everything[::-1]), True)
            self.assertIs(holds(("never", worths, (), way, everything), ()), False)
            self.assertIs(holds(("never", worths, (), way, everything[:8]), ()), True)
            self.assertIs(holds(("free", worths, (), way), ()), True)
            self.assertIs(holds(("counts", worths, (), way), (everything, everything[::-1])), False)
            for name in NAMES:
                self.assertIs(holds(("keeps", worths, (), way, name), ()), True)
                self.assertIs(holds(("breaks", worths, (), way, name), everything), False)

    def test_all_pairs_and_equal_worths(self):
        worths, orders = (2,) * 9, (tuple(range(9)), tuple(range(8, -1, -1)))
        for way in WAYS:
            kept_one = (8,) if way == "newest" else (0,)
            self.assertIs(holds(("kept", worths, all_pairs(9), way, kept_one), orders[0]), True)
            self.assertIs(holds(("kept", worths, all_pairs(9), way, kept_one), orders[1]), False)
            self.assertIs(holds(("never", worths, all_pairs(9), way, (3,)), ()), False)
            self.assertIs(holds(("never", worths, all_pairs(9), way, (3, 4)), ()), True)
            self.assertIs(holds(("counts", worths, all_pairs(9), way), orders), True)
            self.assertIs(holds(("free", worths, all_pairs(9), way), ()), False)
            for name in NAMES:
                self.assertIs(holds(("keeps", worths, all_pairs(9), way, name), ()), True)

    def test_a_line(self):
        worths, pairs = tuple(range(9)), tuple((thing, thing + 1) for thing in range(8))
        ascending = tuple(range(9))
        held = {"first": (0, 2, 4, 6, 8), "earlier": (0,), "newest": (8,), "better": (8,), "lots": (8,)}
        for way, things in held.items():
            self.assertEqual(by_the_document(worths, pairs, way, ascending), things)
            self.assertIs(holds(("kept", worths, pairs, way, things), ascending), True)
        self.assertIs(holds(("breaks", worths, pairs, "better", "covered"), ascending), True)
        self.assertIs(holds(("keeps", worths, pairs, "lots", "just"), ()), True)
        self.assertIs(holds(("keeps", worths, pairs, "lots", "covered"), ()), False)
        self.assertIs(holds(("free", worths, pairs, "best"), ()), True)
        self.assertIs(holds(("free", worths, pairs, "better"), ()), False)


class Bent(CheckerCase):
    """One element changed, at each place, of claims and papers."""

    def test_a_bent_paper(self):
        for claim, paper in SHOWN:
            for other in bent(paper):
                self.compare(claim, other)

    def test_a_bent_claim(self):
        for claim, paper in SHOWN:
            right = [other for other in bent(claim) if self.compare(other, paper)]
            # Another worth or another set can be claimed with the same paper, but not much else.
            self.assertLess(len(right), len(bent(claim)) // 3)

    def test_a_bent_claim_without_pairs(self):
        order = (1, 0)
        for claim, paper in (
            (("kept", (1, 1), (), "first", (0, 1)), order), (("never", (1, 1), (), "best", (0,)), ()),
            (("keeps", (1, 1), (), "better", "just"), ()), (("free", (1,), (), "earlier"), ()),
            (("breaks", (1, 2), ((0, 1),), "newest", "fair"), order),
            (("counts", (2, 2), ((0, 1),), "earlier"), (order, (0, 1))),
        ):
            self.assertIs(holds(claim, paper), True)
            for other in bent(claim):
                self.compare(other, paper)
            for other in bent(paper):
                self.compare(claim, other)

    def test_lists_are_not_tuples(self):
        for claim, paper in SHOWN:
            self.assertIs(holds(list(claim), paper), False)
            self.assertIs(holds(claim, list(paper)), False)
            for at in range(1, len(claim)):
                if type(claim[at]) is tuple:
                    self.assertIs(holds((*claim[:at], list(claim[at]), *claim[at + 1:]), paper), False)
            self.assertIs(holds((*claim[:2], ([0, 1], (1, 2)), *claim[3:]), paper), False)
        claim, (one, other) = SHOWN[4]
        for paper in ([one, other], (list(one), other), (one, list(other))):
            self.assertIs(holds(claim, paper), False)

    def test_true_and_false_are_not_integers(self):
        self.assertIs(holds(("kept", (1, 2, 3), PAIRS, "first", (1,)), (1, 0, 2)), True)
        self.assertIs(holds(("kept", (True, 2, 3), PAIRS, "first", (1,)), (1, 0, 2)), False)
        self.assertIs(holds(("kept", (1, 2, 3), ((False, 1), (1, 2)), "first", (1,)), (1, 0, 2)), False)
        self.assertIs(holds(("kept", (1, 2, 3), ((0, True), (1, 2)), "first", (1,)), (1, 0, 2)), False)
        self.assertIs(holds(("kept", (1, 2, 3), PAIRS, "first", (True,)), (1, 0, 2)), False)
        self.assertIs(holds(("kept", (1, 2, 3), PAIRS, "first", (1,)), (True, 0, 2)), False)
        self.assertIs(holds(("kept", (1, 2, 3), PAIRS, "first", (1,)), (1, False, 2)), False)
        self.assertIs(holds(("counts", (1, 2), ((0, 1),), "first"), ((0, 1), (1, 0))), True)
        self.assertIs(holds(("counts", (1, 2), ((0, 1),), "first"), ((0, True), (1, 0))), False)
        self.assertIs(holds(("counts", (1, 2), ((0, 1),), "first"), ((0, 1), (1, False))), False)

    def test_a_heap_that_is_none(self):
        nine = tuple(range(9))
        for worths, pairs in (
            ((), ()), ((*nine, 9), ()), ((1, None), ()), ((1, "2"), ()), ("12", ()), (2, ()), (None, ()),
            ((1, 2), None), ((1, 2), ((1, 0),)), ((1, 2), ((0, 0),)), ((1, 2), ((0, 2),)), ((1, 2), ((-1, 0),)),
            ((1, 2), ((0, 1), (0, 1))), ((1, 2, 3), ((1, 2), (0, 1))), ((1, 2), (0, 1)), ((1, 2), ((0, 1, 1),)),
            ((1, 2), ((0,),)), ((1, 2), 1), ((1, 2), "01"), (Heap((1, 2), ()), ()), ((1, 2), Heap((1, 2), ())),
        ):
            count = len(worths) if type(worths) is tuple else 2
            order = tuple(range(count))
            for way in WAYS:
                for word in OPPOSITES:
                    for rest in ((), (order,), ((0,),), ("just",)):
                        for paper in ((), order, (order, order[::-1])):
                            self.assertIs(holds((word, worths, pairs, way, *rest), paper), False)


class Anything(CheckerCase):
    def test_values_of_any_kind(self):
        values = [*strange_values(), *odd_ones(), deep(15), deep(2), Heap(WORTHS, PAIRS), "kept", SHOWN]
        for claim in values:
            for paper in values:
                self.assertIs(holds(claim, paper), False)
            for _, paper in SHOWN:
                self.assertIs(holds(claim, paper), False)
        for claim, right in SHOWN:
            for paper in values:
                # The empty tuple is the one value of these that is a paper.
                self.assertIs(holds(claim, paper), right == () and type(paper) is tuple and paper == ())

    def test_tuples_of_values_of_any_kind(self):
        for value in (*strange_values(), deep(14)):
            for many in range(1, 7):
                for _, paper in SHOWN:
                    self.assertIs(holds((value,) * many, paper), False)
                    self.assertIs(holds((*("kept",) * (many > 1), *(value,) * (many - 1)), paper), False)
            for claim, _ in SHOWN:
                for many in range(1, 4):
                    self.assertIs(holds(claim, (value,) * many), False)

    def test_words_that_are_none(self):
        for claim, paper in SHOWN:
            for word in ("", "KEPT", "kept ", "holds", "first", "covered", "x" * 500):
                self.assertIs(holds((word, *claim[1:]), paper), False)
                self.assertIs(holds((*claim[:3], word, *claim[4:]), paper), word == "first" and shows(
                    (*claim[:3], word, *claim[4:]), paper))

    def test_each_word_with_the_rest_of_each_other_one(self):
        for word in OPPOSITES:
            for claim, _ in SHOWN:
                for _, paper in SHOWN:
                    self.compare((word, *claim[1:]), paper)
                    self.compare((word, *claim[1:4]), paper)
                    self.compare((word, *claim[1:], claim[-1]), paper)


class General(unittest.TestCase):
    def test_by_name(self):
        for claim, paper in SHOWN:
            self.assertIs(holds(paper=paper, claim=claim), True)
        self.assertIs(holds(paper=None, claim=None), False)
        self.assertEqual(list(inspect.signature(holds).parameters), ["claim", "paper"])
        self.assertEqual(holds.__module__, "keptlikes.checker")

    def test_equal_calls_lead_to_equal_results(self):
        for claim, paper in SHOWN:
            for other in (*bent(paper)[::5], paper):
                self.assertIs(holds(claim, other), holds(tuple(list(claim)), other))

    def test_worths_of_20_digits(self):
        large = 10 ** 20 - 1
        claim = ("kept", (large, large - 1, -large), PAIRS, "best", (0, 2))
        self.assertIs(holds(claim, (2, 1, 0)), True)
        self.assertIs(holds(("never", *claim[1:4], (1,)), ()), True)


if __name__ == "__main__":
    unittest.main()
