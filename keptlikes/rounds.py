"""What a late arrival turns, and what working in two parts changes."""

from itertools import permutations

from keptlikes.checks import check_set, check_thing
from keptlikes.errors import InvalidSet, TooMany
from keptlikes.heaps import check_heap
from keptlikes.limits import MOST_TRIED
from keptlikes.ways import check_way, kept, kept_among


def check_part(part, count):
    """Raise InvalidSet unless these are some of so many things, but not all."""
    check_set(part, count)
    if len(part) == count:
        raise InvalidSet(part)


def check_size(heap):
    """Raise TooMany if the heap has too many things for trying all orders."""
    if len(heap) > MOST_TRIED:
        raise TooMany(MOST_TRIED)


def turned_by(heap, way, thing):
    """The set of the other things that the arrival of this thing as the last one can turn."""
    check_heap(heap)
    check_way(way)
    check_thing(thing, len(heap))
    check_size(heap)
    others = [other for other in range(len(heap)) if other != thing]
    if not others:
        return ()
    turned = set()
    for order in permutations(others):
        before = kept_among(heap, way, order)
        behind = kept(heap, way, (*order, thing))
        for other in others:
            if (other in before) != (other in behind):
                turned.add(other)
    return tuple(sorted(turned))


def kept_by_parts(heap, way, early, late):
    """The set that is kept if the way is applied to two parts and then to what they keep."""
    chosen = kept_among(heap, way, early) + kept_among(heap, way, late)
    return kept_among(heap, way, tuple([thing for thing in early + late if thing in chosen]))


def parts_fault(heap, way, part):
    """An order, the part first, for which working by parts keeps other things, or None."""
    check_heap(heap)
    check_way(way)
    check_part(part, len(heap))
    check_size(heap)
    ones = [thing for thing in range(len(heap)) if thing in part]
    others = [thing for thing in range(len(heap)) if thing not in part]
    for early in permutations(ones):
        for late in permutations(others):
            if kept(heap, way, early + late) != kept_by_parts(heap, way, early, late):
                return early + late
    return None
