"""What kept things tell about a nearness that nobody has written down."""

from keptlikes.checks import check_count, check_rows
from keptlikes.heaps import all_pairs


def pair_of(thing, other):
    """The pair of two things."""
    return min(thing, other), max(thing, other)


def meetings(row):
    """For each thing in turn: whether it is kept, and its pairs with those kept before it."""
    order, held = row
    found = []
    before = []
    for thing in order:
        found.append((thing in held, [pair_of(thing, other) for other in before]))
        if thing in held:
            before.append(thing)
    return found


def told_near(count, rows):
    """The pairs that are near in all nearnesses that fit, those near in none, and the others.

    A kept thing is apart from all those kept before it, and a struck one has the
    choice to which of them it is near. Nothing else is told: a nearness fits exactly
    if it has no pair that is apart, and at least one pair of each choice.
    """
    check_count(count)
    check_rows(rows, count)
    found = [meeting for row in rows for meeting in meetings(row)]
    apart = [pair for is_kept, pairs in found if is_kept for pair in pairs]
    choices = [[pair for pair in pairs if pair not in apart] for is_kept, pairs in found if not is_kept]
    if any([len(choice) == 0 for choice in choices]):
        return None
    near = [choice[0] for choice in choices if len(choice) == 1]
    every = all_pairs(count)
    return (
        tuple([pair for pair in every if pair in near]),
        tuple([pair for pair in every if pair in apart]),
        tuple([pair for pair in every if pair not in near and pair not in apart]),
    )
