"""What the section keptlikes/checker.py says, word by word, and ways to bend claims and papers.

Nothing here comes from the program.
"""

from itertools import combinations, permutations

from tests.helpers import Equal, Refusing, all_sets
from tests.oracle import NAMES, WAYS, all_outcomes, by_the_document, faults, property_holds

OPPOSITES = {
    "kept": "never", "never": "kept", "breaks": "keeps", "keeps": "breaks", "counts": "free", "free": "counts",
}


def is_heap(worths, pairs):
    if type(worths) is not tuple or not 1 <= len(worths) <= 9 or any(type(worth) is not int for worth in worths):
        return False
    permitted = list(combinations(range(len(worths)), 2))
    if type(pairs) is not tuple or not all(are_things(pair, len(worths)) for pair in pairs):
        return False
    return list(pairs) == [pair for pair in permitted if pair in pairs]


def are_things(value, count):
    """A tuple of things, in any sequence."""
    return type(value) is tuple and all(type(thing) is int and 0 <= thing < count for thing in value)


def is_set_of(things, count):
    return are_things(things, count) and len(things) > 0 and list(things) == sorted(set(things))


def is_order_of(order, count):
    return are_things(order, count) and sorted(order) == list(range(count))


def is_one_of(value, words):
    return type(value) is str and value in words


def is_nothing(paper):
    return type(paper) is tuple and len(paper) == 0


def shows(claim, paper):
    """Whether the claim and the paper have one of the forms and the paper shows the claim."""
    if type(claim) is not tuple or len(claim) < 4 or not is_one_of(claim[0], OPPOSITES):
        return False
    word, worths, pairs, way, *rest = claim
    if not is_heap(worths, pairs) or not is_one_of(way, WAYS):
        return False
    if word in ("kept", "never"):
        return len(rest) == 1 and is_set_of(rest[0], len(worths)) and shows_set(*claim, paper)
    if word in ("breaks", "keeps"):
        return len(rest) == 1 and is_one_of(rest[0], NAMES) and shows_property(*claim, paper)
    return len(rest) == 0 and shows_freedom(*claim, paper)


def shows_set(word, worths, pairs, way, things, paper):
    if word == "kept":
        return is_order_of(paper, len(worths)) and by_the_document(worths, pairs, way, paper) == things
    return is_nothing(paper) and things not in all_outcomes(worths, pairs, way)


def shows_property(word, worths, pairs, way, name, paper):
    if word == "breaks":
        return is_order_of(paper, len(worths)) and not property_holds(
            worths, pairs, name, by_the_document(worths, pairs, way, paper))
    return is_nothing(paper) and not faults(worths, pairs, way, name)


def shows_freedom(word, worths, pairs, way, paper):
    if word == "free":
        return is_nothing(paper) and len(all_outcomes(worths, pairs, way)) == 1
    if type(paper) is not tuple or len(paper) != 2 or not all(is_order_of(one, len(worths)) for one in paper):
        return False
    return by_the_document(worths, pairs, way, paper[0]) != by_the_document(worths, pairs, way, paper[1])


def all_claims(worths, pairs):
    """All claims about a heap, true ones and false ones."""
    found = []
    for way in WAYS:
        found += [(word, worths, pairs, way, things) for word in ("kept", "never") for things in all_sets(len(worths))]
        found += [(word, worths, pairs, way, name) for word in ("breaks", "keeps") for name in NAMES]
        found += [(word, worths, pairs, way) for word in ("counts", "free")]
    return found


def all_papers(count):
    """All papers that have the form of a paper for so many things."""
    orders = list(permutations(range(count)))
    return [(), *orders, *[(one, other) for one in orders for other in orders]]


def odd_ones():
    """Elements of other kinds, and some that have a right kind at some place."""
    return [
        None, True, False, 0, 1, 2, -1, 9, 10 ** 20 - 1, "", "kept", "never", "free", "first", "lots", "covered",
        "just", "Kept", "x", b"first", (), (0,), (1,), (0, 1), (1, 0), (True,), (False, 1), ((0, 1),), [], [0], [0, 1],
        {}, {0: 1}, {0}, frozenset((0,)), range(2), Equal(), Refusing(), object(), len, object,
    ]


def bent(value):
    """The value with one element, at any depth, bent, left out, doubled, or of another kind."""
    found = list(odd_ones())
    if type(value) is int:
        found += [value - 1, value + 1, -value, bool(value), str(value), (value,), [value]]
    if type(value) is str:
        found += [value.upper(), value + " ", " " + value, value[:-1], value.encode(), (value,), [value]]
    if type(value) is tuple:
        found += [list(value), (value,), [value], value + value, value[::-1], dict(enumerate(value)), set_of(value)]
        found += [value[:at] + value[at + 1:] for at in range(len(value))]
        found += [value[:at] + value[at:at + 1] + value[at:] for at in range(len(value))]
        found += [value[:at] + (1,) + value[at:] for at in range(len(value) + 1)]
        found += [swapped(value, at) for at in range(len(value) - 1)]
        for at, element in enumerate(value):
            found += [value[:at] + (other,) + value[at + 1:] for other in bent(element)]
    return found


def set_of(value):
    """The elements as a set, where this is possible."""
    try:
        return set(value)
    except TypeError:
        return None


def swapped(value, at):
    return value[:at] + (value[at + 1], value[at]) + value[at + 2:]
