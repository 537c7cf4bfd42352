"""A heap to try things with."""

from keptlikes.heaps import Heap


def sample_heap():
    """The heap of three things in which the middle one is near the two others."""
    return Heap((1, 2, 3), ((0, 1), (1, 2)))
