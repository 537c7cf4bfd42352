"""Tables of what the ways do with a heap."""

from keptlikes.heaps import check_heap
from keptlikes.orders import outcomes
from keptlikes.properties import failing
from keptlikes.texts import things_text
from keptlikes.ways import STEPS


def outcomes_text(heap, way):
    """The outcomes of the way, separated by spaces."""
    return " ".join([things_text(held) for held in outcomes(heap, way)])


def failing_text(heap, way):
    """The properties that do not hold for some order, separated by commas, or none."""
    names = failing(heap, way)
    if not names:
        return "none"
    return ",".join(names)


def way_table(heap):
    """A text with one line for each way, which lists its outcomes."""
    check_heap(heap)
    return "\n".join([f"{way}: {outcomes_text(heap, way)}" for way in STEPS])


def property_table(heap):
    """A text with one line for each way, which lists the properties that do not always hold."""
    check_heap(heap)
    return "\n".join([f"{way}: {failing_text(heap, way)}" for way in STEPS])
