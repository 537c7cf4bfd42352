"""Whether a paper shows a claim."""

from keptlikes.checks import is_order, is_set
from keptlikes.errors import InvalidPairs, InvalidWorths
from keptlikes.heaps import Heap
from keptlikes.orders import is_free, order_for
from keptlikes.properties import always_holds, holds_for, is_name
from keptlikes.ways import is_way, kept


def is_one_set(rest, heap):
    """Whether the rest of a claim is one set of things of the heap."""
    return len(rest) == 1 and is_set(rest[0], len(heap))


def is_one_name(rest):
    """Whether the rest of a claim is one name of a property."""
    return len(rest) == 1 and is_name(rest[0])


def is_empty(paper):
    """Whether the paper is the empty tuple."""
    return isinstance(paper, tuple) and len(paper) == 0


def is_pair_of_orders(paper, heap):
    """Whether the paper is a pair of orders of the heap."""
    if not isinstance(paper, tuple) or len(paper) != 2:
        return False
    return is_order(paper[0], len(heap)) and is_order(paper[1], len(heap))


def shows_kept(heap, way, rest, paper):
    """Whether the paper is an order that leads to just these things."""
    if not is_one_set(rest, heap) or not is_order(paper, len(heap)):
        return False
    return kept(heap, way, paper) == rest[0]


def shows_never(heap, way, rest, paper):
    """Whether no order leads to just these things."""
    if not is_one_set(rest, heap) or not is_empty(paper):
        return False
    return order_for(heap, way, rest[0]) is None


def shows_breaks(heap, way, rest, paper):
    """Whether the paper is an order for which the property does not hold."""
    if not is_one_name(rest) or not is_order(paper, len(heap)):
        return False
    return not holds_for(heap, way, rest[0], paper)


def shows_keeps(heap, way, rest, paper):
    """Whether the property holds for every order."""
    if not is_one_name(rest) or not is_empty(paper):
        return False
    return always_holds(heap, way, rest[0])


def shows_counts(heap, way, rest, paper):
    """Whether the paper is a pair of orders for which different things are kept."""
    if len(rest) > 0 or not is_pair_of_orders(paper, heap):
        return False
    return kept(heap, way, paper[0]) != kept(heap, way, paper[1])


def shows_free(heap, way, rest, paper):
    """Whether the heap is free of order."""
    if len(rest) > 0 or not is_empty(paper):
        return False
    return is_free(heap, way)


SHOWN_BY = {
    "kept": shows_kept,
    "never": shows_never,
    "breaks": shows_breaks,
    "keeps": shows_keeps,
    "counts": shows_counts,
    "free": shows_free,
}


def claimed_heap(worths, pairs):
    """The heap with these worths and pairs, or None if there is none."""
    try:
        return Heap(worths, pairs)
    except (InvalidWorths, InvalidPairs):
        return None


def holds(claim, paper):
    """Whether claim and paper have one of the six forms, and the paper shows the claim."""
    if not isinstance(claim, tuple) or len(claim) < 4:
        return False
    word, worths, pairs, way = claim[:4]
    # Other values may have no hash, so they are never looked up in the table.
    if not isinstance(word, str) or word not in SHOWN_BY or not is_way(way):
        return False
    heap = claimed_heap(worths, pairs)
    if heap is None:
        return False
    shows = SHOWN_BY[word]
    return shows(heap, way, claim[4:], paper)
