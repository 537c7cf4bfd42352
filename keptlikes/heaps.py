"""Heaps: things with worths, some of them near one another."""

from keptlikes.checks import (
    check_pairs,
    check_places,
    check_reach,
    check_set,
    check_thing,
    check_words,
    check_worths,
)
from keptlikes.errors import NotAHeap


class Heap:
    """A heap of 1 to 9 things, which never changes."""

    def __init__(self, worths, pairs):
        check_worths(worths)
        check_pairs(pairs, len(worths))
        self.worths = worths
        self.pairs = pairs
        self._neighbours = find_neighbours(len(worths), pairs)
        self.lots = find_lots(self._neighbours)
        self.passes_on = all([are_all_near(lot, self._neighbours) for lot in self.lots])

    @staticmethod
    def line(worths, places, reach):
        """The heap whose things are near if their places differ by at most the reach."""
        check_worths(worths)
        check_places(places, len(worths))
        check_reach(reach)
        return Heap(worths, line_pairs(places, reach))

    @staticmethod
    def words(worths, words, most):
        """The heap whose things are near if their words differ at no more than most places."""
        check_worths(worths)
        check_words(words, len(worths))
        check_reach(most)
        pairs = [(i, j) for i, j in all_pairs(len(worths)) if are_alike(words[i], words[j], most)]
        return Heap(worths, tuple(pairs))

    def near(self, thing):
        """The set of the things near this one."""
        check_thing(thing, len(self.worths))
        return self._neighbours[thing]

    def only(self, things):
        """The heap of these things alone, numbered anew in their order."""
        check_set(things, len(self.worths))
        worths = [self.worths[thing] for thing in things]
        pairs = [(i, j) for i, j in all_pairs(len(things)) if (things[i], things[j]) in self.pairs]
        return Heap(tuple(worths), tuple(pairs))

    def __len__(self):
        return len(self.worths)

    def __repr__(self):
        return f"Heap({len(self.worths)} things, {len(self.pairs)} pairs)"

    def __eq__(self, other):
        return isinstance(other, Heap) and self.worths == other.worths and self.pairs == other.pairs


def check_heap(heap):
    """Raise NotAHeap unless this is a heap."""
    if not isinstance(heap, Heap):
        raise NotAHeap(heap)


def all_pairs(count):
    """All pairs (i, j) of so many things with i < j, in ascending order."""
    return [(i, j) for i in range(count) for j in range(i + 1, count)]


def line_pairs(places, reach):
    """The pairs of things whose places differ by at most the reach."""
    return tuple([(i, j) for i, j in all_pairs(len(places)) if abs(places[i] - places[j]) <= reach])


def are_alike(word, other, most):
    """Whether two words have the same length and differ at no more than most places."""
    if len(word) != len(other):
        return False
    return len([1 for letter, instead in zip(word, other) if letter != instead]) <= most


def find_neighbours(count, pairs):
    """For each thing the set of the things near it."""
    neighbours = []
    for thing in range(count):
        near = [other for other in range(count) if (thing, other) in pairs or (other, thing) in pairs]
        neighbours.append(tuple(near))
    return tuple(neighbours)


def find_lots(neighbours):
    """All lots, the one with the least thing first."""
    lots = []
    for thing in range(len(neighbours)):
        if not any([thing in lot for lot in lots]):
            lots.append(find_lot(thing, neighbours))
    return tuple(lots)


def find_lot(thing, neighbours):
    """The lot of one thing."""
    found = [thing]
    waiting = [thing]
    while waiting:
        reached = waiting.pop()
        for other in neighbours[reached]:
            if other not in found:
                found.append(other)
                waiting.append(other)
    return tuple(sorted(found))


def are_all_near(lot, neighbours):
    """Whether all things of a lot are near one another."""
    return all([other in neighbours[thing] for thing in lot for other in lot if other != thing])
