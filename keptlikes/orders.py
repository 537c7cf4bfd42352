"""What can happen in all orders of arrival of one heap."""

from keptlikes.checks import check_set
from keptlikes.heaps import check_heap
from keptlikes.ways import SORTING, STEPS, check_way


def next_ones(heap, way, arrived):
    """The things that may arrive next, in the orders that have to be followed."""
    left = [thing for thing in range(len(heap)) if thing not in arrived]
    if way not in SORTING:
        return left
    # Such a way takes any order as another one in which better things arrive first.
    greatest = max([heap.worths[thing] for thing in left])
    return [thing for thing in left if heap.worths[thing] == greatest]


def one_more(heap, way, found):
    """The states with one thing more, each with an order that leads to it."""
    step = STEPS[way]
    further = {}
    for (arrived, held), order in found.items():
        for thing in next_ones(heap, way, arrived):
            now_held = tuple(sorted(step(heap, arrived, held, thing)))
            state = (tuple(sorted([*arrived, thing])), now_held)
            further.setdefault(state, (*order, thing))
    return further


def find_outcomes(heap, way):
    """Each outcome, with an order that leads to it.

    A step depends only on which things have arrived and which of them are kept.
    So one order for each such state is enough, and far fewer are followed than
    there are orders.
    """
    found = {((), ()): ()}
    for _ in range(len(heap)):
        found = one_more(heap, way, found)
    return {held: order for (_, held), order in found.items()}


def checked_outcomes(heap, way):
    """Each outcome, with an order that leads to it, behind the checks."""
    check_heap(heap)
    check_way(way)
    return find_outcomes(heap, way)


def outcomes(heap, way):
    """The tuple of all outcomes."""
    return tuple(sorted(checked_outcomes(heap, way)))


def is_free(heap, way):
    """Whether the heap is free of order for the way."""
    return len(checked_outcomes(heap, way)) == 1


def always_kept(heap, way):
    """The set of the things that are kept in every order."""
    found = checked_outcomes(heap, way)
    return tuple([thing for thing in range(len(heap)) if all([thing in held for held in found])])


def ever_kept(heap, way):
    """The set of the things that are kept in some order."""
    found = checked_outcomes(heap, way)
    return tuple([thing for thing in range(len(heap)) if any([thing in held for held in found])])


def sizes(heap, way):
    """The pair of the smallest and the greatest number of kept things."""
    numbers = [len(held) for held in checked_outcomes(heap, way)]
    return min(numbers), max(numbers)


def order_for(heap, way, things):
    """An order for which exactly these things are kept, or None."""
    check_heap(heap)
    check_way(way)
    check_set(things, len(heap))
    return find_outcomes(heap, way).get(things)


def two_orders(heap, way):
    """A pair of orders for which different things are kept, or None."""
    orders = list(checked_outcomes(heap, way).values())
    if len(orders) == 1:
        return None
    return orders[0], orders[1]
