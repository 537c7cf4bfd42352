"""What points 8 and 9 and keptlikes.rounds say, done word by word through all orders.

Nothing here comes from the program. Heaps are worths and pairs, and the things
of an order are all that counts, so a part of a heap can be looked at as well.
"""

from functools import lru_cache
from itertools import permutations

WAYS = ("first", "earlier", "newest", "better", "best", "lots")
NAMES = ("covered", "fair", "just")


def both_ways(pairs):
    return {(i, j) for i, j in pairs} | {(j, i) for i, j in pairs}


@lru_cache(maxsize=None)
def by_the_document(worths, pairs, way, order):
    """What point 8 says, arrival by arrival, with the things that are kept as a set."""
    near = both_ways(pairs)
    if way == "best":
        sequence = sorted((-worths[thing], place, thing) for place, thing in enumerate(order))
        return by_the_document(worths, pairs, "first", tuple(thing for _, _, thing in sequence))
    if way == "lots":
        return tuple(sorted(best_of_lot(thing, worths, near, order) for thing in lot_heads(near, order)))
    held, arrived = set(), set()
    for thing in order:
        rivals = {other for other in held if (other, thing) in near}
        if way == "earlier":
            enters = not any((other, thing) in near for other in arrived)
        elif way == "better":
            enters = not any(worths[rival] >= worths[thing] for rival in rivals)
        else:
            enters = way == "newest" or not rivals
        if enters and way in ("newest", "better"):
            held -= rivals
        if enters:
            held.add(thing)
        arrived.add(thing)
    return tuple(sorted(held))


def lot_of(thing, near, order):
    lot = {thing}
    for _ in order:
        lot |= {end for end in order for start in lot if (start, end) in near}
    return lot


def lot_heads(near, order):
    return sorted({min(lot_of(thing, near, order)) for thing in order})


def best_of_lot(thing, worths, near, order):
    lot = lot_of(thing, near, order)
    greatest = max(worths[other] for other in lot)
    return [other for other in order if other in lot and worths[other] == greatest][0]


@lru_cache(maxsize=None)
def all_orders(worths, pairs, way):
    """What each order of all things leads to."""
    return {order: by_the_document(worths, pairs, way, order) for order in permutations(range(len(worths)))}


def all_outcomes(worths, pairs, way):
    return tuple(sorted(set(all_orders(worths, pairs, way).values())))


def property_holds(worths, pairs, name, held):
    """What point 9 says of a property."""
    near = both_ways(pairs)
    struck = set(range(len(worths))) - set(held)
    if name == "covered":
        return all(any((s, k) in near for k in held) for s in struck)
    if name == "fair":
        return all(any((s, k) in near and worths[k] >= worths[s] for k in held) for s in struck)
    return not any((k, s) in near and worths[s] > worths[k] for k in held for s in struck)


def faults(worths, pairs, way, name):
    """All orders for which the property does not hold."""
    orders = all_orders(worths, pairs, way)
    return [order for order, held in orders.items() if not property_holds(worths, pairs, name, held)]


def turned(worths, pairs, way, thing):
    """All things that the thing can turn if it arrives as the last one."""
    found = set()
    for order in permutations(other for other in range(len(worths)) if other != thing):
        before = set(by_the_document(worths, pairs, way, order))
        behind = set(by_the_document(worths, pairs, way, (*order, thing)))
        found |= (before ^ behind) - {thing}
    return tuple(sorted(found))


def part_faults(worths, pairs, way, part):
    """All orders, the part first, for which the two ways of working keep different things."""
    found = []
    for order in permutations(range(len(worths))):
        early, late = order[:len(part)], order[len(part):]
        if set(early) != set(part):
            continue
        chosen = {*by_the_document(worths, pairs, way, early), *by_the_document(worths, pairs, way, late)}
        again = tuple(thing for thing in order if thing in chosen)
        if by_the_document(worths, pairs, way, again) != by_the_document(worths, pairs, way, order):
            found.append(order)
    return found
