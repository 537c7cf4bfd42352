"""The six ways of striking doubles, applied to one order of arrival.

Each step is given a heap, the things that have arrived, those of them that are
kept, and the thing that arrives next. It returns the things that are kept then,
in any sequence, and looks at nothing else: how the things before it came to be
kept or struck does not matter to it.
"""

from keptlikes.checks import check_order
from keptlikes.errors import InvalidWay
from keptlikes.heaps import check_heap


def near_ones(heap, thing, others):
    """Those of the others that are near the thing."""
    near = heap.near(thing)
    return [other for other in others if other in near]


def step_first(heap, arrived, held, thing):
    """Keep the thing unless it is near one that is kept."""
    if near_ones(heap, thing, held):
        return held
    return [*held, thing]


def step_earlier(heap, arrived, held, thing):
    """Keep the thing unless it is near one that has arrived, kept or not."""
    if near_ones(heap, thing, arrived):
        return held
    return [*held, thing]


def step_newest(heap, arrived, held, thing):
    """Keep the thing, and strike the kept ones near it."""
    rivals = near_ones(heap, thing, held)
    return [other for other in held if other not in rivals] + [thing]


def step_better(heap, arrived, held, thing):
    """Keep the thing if it is better than all kept ones near it, and strike these."""
    rivals = near_ones(heap, thing, held)
    if all([heap.worths[thing] > heap.worths[rival] for rival in rivals]):
        return step_newest(heap, arrived, held, thing)
    return held


def step_lots(heap, arrived, held, thing):
    """Keep the thing if it is the first one of its lot."""
    mates = [other for lot in heap.lots if thing in lot for other in lot]
    if any([other in mates for other in arrived]):
        return held
    return [*held, thing]


STEPS = {
    "first": step_first,
    "earlier": step_earlier,
    "newest": step_newest,
    "better": step_better,
    "best": step_first,
    "lots": step_lots,
}

# These ways take the things as if better ones had arrived first.
SORTING = ("best", "lots")


def is_way(value):
    """Whether the value is one of the six words."""
    # Other values may have no hash, so they are never looked up in the table.
    return isinstance(value, str) and value in STEPS


def check_way(way):
    """Raise InvalidWay unless this is one of the six words."""
    if not is_way(way):
        raise InvalidWay(way)


def in_sequence(heap, way, order):
    """The things in the sequence in which the way takes them."""
    if way not in SORTING:
        return order
    # Sorting leaves things of equal worth as they arrived.
    return tuple(sorted(order, key=lambda thing: -heap.worths[thing]))


def kept(heap, way, order):
    """The set of the things that the way keeps if they arrive in this order."""
    check_heap(heap)
    check_way(way)
    check_order(order, len(heap))
    step = STEPS[way]
    sequence = in_sequence(heap, way, order)
    held = []
    for place, thing in enumerate(sequence):
        held = step(heap, sequence[:place], held, thing)
    return tuple(sorted(held))


def kept_among(heap, way, order):
    """The set of the things that the way keeps if only those of this order count."""
    things = tuple(sorted(order))
    places = [things.index(thing) for thing in order]
    return tuple([things[place] for place in kept(heap.only(things), way, tuple(places))])
