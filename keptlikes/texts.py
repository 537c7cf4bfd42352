"""How sets of things are written."""


def things_text(things):
    """The things of a set, separated by commas."""
    return ",".join([str(thing) for thing in things])
