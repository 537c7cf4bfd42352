"""The three properties, for one order and for all orders of a heap."""

from keptlikes.checks import check_order
from keptlikes.errors import InvalidName
from keptlikes.heaps import check_heap
from keptlikes.orders import find_outcomes
from keptlikes.ways import check_way, kept, near_ones


def struck_ones(heap, held):
    """The things that are struck if these are kept."""
    return [thing for thing in range(len(heap)) if thing not in held]


def is_covered(heap, held):
    """Whether each struck thing is near a kept one."""
    return all([len(near_ones(heap, thing, held)) > 0 for thing in struck_ones(heap, held)])


def has_fair_match(heap, held, thing):
    """Whether the thing is near a kept one whose worth is at least its own."""
    return any([heap.worths[other] >= heap.worths[thing] for other in near_ones(heap, thing, held)])


def is_fair(heap, held):
    """Whether each struck thing is near a kept one whose worth is at least its own."""
    return all([has_fair_match(heap, held, thing) for thing in struck_ones(heap, held)])


def has_better_match(heap, held, thing):
    """Whether the struck thing is better than a kept one near it."""
    return any([heap.worths[other] < heap.worths[thing] for other in near_ones(heap, thing, held)])


def is_just(heap, held):
    """Whether no kept thing is near a struck thing that is better."""
    return not any([has_better_match(heap, held, thing) for thing in struck_ones(heap, held)])


PROPERTIES = {
    "covered": is_covered,
    "fair": is_fair,
    "just": is_just,
}


def is_name(value):
    """Whether the value is one of the three words for properties."""
    # Other values may have no hash, so they are never looked up in the table.
    return isinstance(value, str) and value in PROPERTIES


def check_name(name):
    """Raise InvalidName unless this is one of the three words for properties."""
    if not is_name(name):
        raise InvalidName(name)


def has_property(heap, held, name):
    """Whether the property holds if these things are kept."""
    test = PROPERTIES[name]
    return test(heap, held)


def find_fault(heap, found, name):
    """The order of one of these outcomes for which the property does not hold, or None."""
    for held, order in found.items():
        if not has_property(heap, held, name):
            return order
    return None


def holds_for(heap, way, name, order):
    """Whether the property holds for this order."""
    check_heap(heap)
    check_way(way)
    check_name(name)
    check_order(order, len(heap))
    return has_property(heap, kept(heap, way, order), name)


def always_holds(heap, way, name):
    """Whether the property holds for every order."""
    return fault(heap, way, name) is None


def fault(heap, way, name):
    """An order for which the property does not hold, or None."""
    check_heap(heap)
    check_way(way)
    check_name(name)
    return find_fault(heap, find_outcomes(heap, way), name)


def failing(heap, way):
    """The properties that do not hold for some order."""
    check_heap(heap)
    check_way(way)
    found = find_outcomes(heap, way)
    return tuple([name for name in PROPERTIES if find_fault(heap, found, name) is not None])
