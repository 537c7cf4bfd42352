"""Heaps in which things arrive one by one, and can be taken back."""

from keptlikes.checks import check_deeds, check_near, check_worth
from keptlikes.errors import Busy, NotALiveHeap, NothingToUndo, TooMany
from keptlikes.heaps import Heap
from keptlikes.limits import MOST_THINGS
from keptlikes.ways import check_way, kept


def with_one_more(heap, worth, near):
    """The heap with one thing more, where None is a heap without things."""
    if heap is None:
        return Heap((worth,), ())
    new_pairs = [(other, len(heap)) for other in near]
    return Heap((*heap.worths, worth), tuple(sorted([*heap.pairs, *new_pairs])))


def with_one_less(heap):
    """The heap without its last thing, None if there is no other one."""
    if len(heap) == 1:
        return None
    return heap.only(tuple(range(len(heap) - 1)))


def kept_so_far(heap, way):
    """The set of the things that are kept after all things have arrived by their numbers."""
    if heap is None:
        return ()
    return kept(heap, way, tuple(range(len(heap))))


class Saved:
    """What a live heap shows at the start of a block.

    The blocks of one context manager can stand within one another, so each one
    knows what the block around it has saved.
    """

    def __init__(self, live, outer):
        self.heap = live.heap
        self.kept = live.kept
        self.outer = outer


class Trial:
    """A context manager that brings back the things of a live heap."""

    def __init__(self, live):
        self.live = live
        self.saved = None

    def __enter__(self):
        self.saved = Saved(self.live, self.saved)
        return self.live

    def __exit__(self, kind, value, trace):
        live = self.live
        live.heap = self.saved.heap
        live.kept = self.saved.kept
        self.saved = self.saved.outer


class LiveHeap:
    """A heap that grows with each arrival and shows what its way keeps."""

    def __init__(self, way):
        check_way(way)
        self.way = way
        self.heap = None
        self.kept = ()
        self.busy = False

    def arrive(self, worth, near):
        """Let a thing arrive; the set of the things that are kept now."""
        self._check_not_busy()
        self._let_arrive(worth, near)
        return self.kept

    def arrive_all(self, *deeds, watch=None):
        """Let several things arrive, or none of them if an error ends the call."""
        self._check_not_busy()
        check_deeds(deeds)
        heap, held = self.heap, self.kept
        self.busy = True
        try:
            for place, (_, worth, near) in enumerate(deeds):
                self._let_arrive(worth, near)
                if watch is not None:
                    watch(self, place)
            heap, held = self.heap, self.kept
        finally:
            # These are the ones from before the call unless all deeds are done.
            self.heap, self.kept = heap, held
            self.busy = False

    def undo(self):
        """Take back the last thing."""
        self._check_not_busy()
        if self.heap is None:
            raise NothingToUndo()
        self._show(with_one_less(self.heap))

    def trial(self):
        """A context manager that brings back the things of the start of its block."""
        self._check_not_busy()
        return Trial(self)

    def _check_not_busy(self):
        if self.busy:
            raise Busy()

    def _let_arrive(self, worth, near):
        check_worth(worth)
        check_near(near, len(self))
        if len(self) >= MOST_THINGS:
            raise TooMany(MOST_THINGS)
        self._show(with_one_more(self.heap, worth, near))

    def _show(self, heap):
        # Both are set at the end only, so that an error before leaves both as they were.
        held = kept_so_far(heap, self.way)
        self.heap = heap
        self.kept = held

    def __len__(self):
        if self.heap is None:
            return 0
        return len(self.heap)

    def __repr__(self):
        return f"LiveHeap({len(self)} things)"

    def __eq__(self, other):
        return self is other


def within(trial, act):
    """What act returns for the live heap in a block of the context manager."""
    with trial as live:
        return act(live)


def attempt(live, act):
    """What act returns for the live heap, which then has the things that it had before."""
    if not isinstance(live, LiveHeap):
        raise NotALiveHeap(live)
    return within(live.trial(), act)
