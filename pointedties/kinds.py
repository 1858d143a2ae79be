"""Of what kind a thing is, where it may be anything."""


def is_number(thing):
    # Python counts True and False among its whole numbers, the document does not.
    return isinstance(thing, int) and not isinstance(thing, bool)


def is_pair(thing):
    """Whether a thing is a tuple of two numbers."""
    return isinstance(thing, tuple) and len(thing) == 2 and is_number(thing[0]) and is_number(thing[1])
