"""For which reaches the things of a line are free of order."""

from keptlikes.checks import check_places, check_worths
from keptlikes.heaps import Heap, all_pairs, line_pairs
from keptlikes.orders import is_free
from keptlikes.ways import check_way


def first_reaches(places):
    """The reaches from which on other things are near, in ascending order, 0 among them."""
    distances = [abs(places[i] - places[j]) for i, j in all_pairs(len(places))]
    return sorted(set([0, *distances]))


def free_reaches(worths, places, way):
    """The ranges of reaches for which the heap of the line is free of order for the way."""
    check_worths(worths)
    check_places(places, len(worths))
    check_way(way)
    ranges = []
    low = None
    for reach in first_reaches(places):
        # From this reach to just before the next one, the heap is the same.
        free = is_free(Heap(worths, line_pairs(places, reach)), way)
        if free and low is None:
            low = reach
        if not free and low is not None:
            ranges.append((low, reach - 1))
            low = None
    if low is not None:
        ranges.append((low, None))
    return tuple(ranges)
