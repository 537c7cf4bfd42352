"""Claims about a heap, each with a paper that the checker accepts."""

from keptlikes.orders import order_for, two_orders
from keptlikes.properties import fault


def certify_kept(heap, way, things):
    """That some order leads to just these things, or that none does, with a paper."""
    order = order_for(heap, way, things)
    if order is None:
        return ("never", heap.worths, heap.pairs, way, things), ()
    return ("kept", heap.worths, heap.pairs, way, things), order


def certify_property(heap, way, name):
    """That the property holds for every order, or that it does not, with a paper."""
    order = fault(heap, way, name)
    if order is None:
        return ("keeps", heap.worths, heap.pairs, way, name), ()
    return ("breaks", heap.worths, heap.pairs, way, name), order


def certify_free(heap, way):
    """That the heap is free of order, or that it is not, with a paper."""
    orders = two_orders(heap, way)
    if orders is None:
        return ("free", heap.worths, heap.pairs, way), ()
    return ("counts", heap.worths, heap.pairs, way), orders
