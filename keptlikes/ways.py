"""The six ways of striking doubles, applied to one order of arrival.

Each rule is given a heap and an order of all its things, which are both known
to be right, and returns a list of the things that are kept, in any sequence.
"""

from keptlikes.checks import check_order
from keptlikes.errors import InvalidWay
from keptlikes.heaps import check_heap


def near_ones(heap, thing, others):
    """Those of the others that are near the thing."""
    near = heap.near(thing)
    return [other for other in others if other in near]


def keep_first(heap, order):
    """Keep what is near no thing that is kept when it arrives."""
    held = []
    for thing in order:
        if not near_ones(heap, thing, held):
            held.append(thing)
    return held


def keep_earlier(heap, order):
    """Keep what is near no thing that arrived before it, kept or not."""
    return [thing for place, thing in enumerate(order) if not near_ones(heap, thing, order[:place])]


def keep_newest(heap, order):
    """Keep what arrives, and strike the kept things near it."""
    held = []
    for thing in order:
        rivals = near_ones(heap, thing, held)
        held = [other for other in held if other not in rivals] + [thing]
    return held


def keep_better(heap, order):
    """Keep what is better than all kept things near it, and strike these."""
    held = []
    for thing in order:
        rivals = near_ones(heap, thing, held)
        if all([heap.worths[thing] > heap.worths[rival] for rival in rivals]):
            held = [other for other in held if other not in rivals] + [thing]
    return held


def keep_best(heap, order):
    """Do as with first, but better things first; sorting leaves equal ones as they arrived."""
    return keep_first(heap, sorted(order, key=lambda thing: -heap.worths[thing]))


def keep_lots(heap, order):
    """Keep the first of the best things of each lot; max takes the first of equal ones."""
    held = []
    for lot in heap.lots:
        arrived = [thing for thing in order if thing in lot]
        held.append(max(arrived, key=lambda thing: heap.worths[thing]))
    return held


RULES = {
    "first": keep_first,
    "earlier": keep_earlier,
    "newest": keep_newest,
    "better": keep_better,
    "best": keep_best,
    "lots": keep_lots,
}


def check_way(way):
    """Raise InvalidWay unless this is one of the six words."""
    # Other values may have no hash, so they are never looked up in the table.
    if not isinstance(way, str) or way not in RULES:
        raise InvalidWay(way)


def kept(heap, way, order):
    """The set of the things that the way keeps if they arrive in this order."""
    check_heap(heap)
    check_way(way)
    check_order(order, len(heap))
    rule = RULES[way]
    return tuple(sorted(rule(heap, order)))
