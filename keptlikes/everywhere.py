"""Which ways agree in all heaps of a kind, and where two ways first differ."""

from itertools import combinations, permutations

from keptlikes.heaps import Heap, all_pairs
from keptlikes.ways import check_way, kept

# Two ways that differ in some heap of a kind differ in one of so few things.
# Proof. If the nearness passes on, all things of a lot are near one another. Of
# each lot, `first` and `earlier` then keep the thing that arrived first, `newest`
# the one that arrived last, and `better`, `best` and `lots` the first one of
# those with the greatest worth. So there are three groups of ways that agree
# always in these kinds. Ways of two groups differ for two things that are near
# one another and have unlike worths, a heap that belongs to all kinds. Without
# `passing`, ways of one group differ for three things with unlike worths of
# which two are not near one another, but both near the third one: `first` and
# `earlier`, `better` and `best`, `better` and `lots`, `best` and `lots`.
ENOUGH = 3


def small_heaps(count):
    """The heaps of so many things with unlike worths, but for their numbers and the size of worths.

    A kind with `unlike` and the one without it both contain them, and by the proof
    above nothing is missed by leaving out equal worths.
    """
    pairs = all_pairs(count)
    found = []
    for many in range(len(pairs) + 1):
        for near in combinations(pairs, many):
            found.append(Heap(tuple(range(count)), near))
    return found


def find_difference(heap, way, other_way):
    """An order for which the two ways keep different things, or None."""
    for order in permutations(range(len(heap))):
        if kept(heap, way, order) != kept(heap, other_way, order):
            return order
    return None


def agree_always(way, other_way, *, passing=False, unlike=False):
    """Whether the two ways keep the same things in all heaps of the kind and in all orders."""
    return least_difference(way, other_way, passing=passing, unlike=unlike) is None


def least_difference(way, other_way, *, passing=False, unlike=False):
    """A smallest heap of the kind, and an order, for which the two ways differ, or None."""
    check_way(way)
    check_way(other_way)
    for count in range(1, ENOUGH + 1):
        for heap in small_heaps(count):
            if heap.passes_on or not passing:
                order = find_difference(heap, way, other_way)
                if order is not None:
                    return heap, order
    return None
