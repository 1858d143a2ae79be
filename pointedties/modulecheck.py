"""A small checker of trees of parts; it asks ties and least modules, and makes no tree of its own."""

from pointedties.kinds import is_number
from pointedties.modules import least_among, least_module, places_in, shape_of
from pointedties.webs import tied

KINDS = ("apart", "all", "close")


def shows_parts(web, thing):
    """Whether a thing is the tree of parts of a web, of one place or more."""
    return is_written(thing) and places_in(thing) == list(range(web[0])) and is_right(web, thing)


def is_written(thing):
    """Whether a thing is written as a tree is, of whatever places."""
    if not isinstance(thing, tuple) or len(thing) != 2:
        return False
    kind, inside = thing
    if kind == "place":
        return is_number(inside)
    if kind not in KINDS or not isinstance(inside, tuple) or len(inside) < 2:
        return False
    return all(is_written(part) for part in inside)


def is_right(web, tree):
    """Whether each node of a tree is of its kind, and has the trees that it must."""
    kind, inside = tree
    if kind == "place":
        return True
    sets = [places_in(part) for part in inside]
    if sets != sorted(sets) or not all(is_right(web, part) for part in inside):
        return False
    if kind == "close":
        return is_close(web, tree, sets)
    # A tree of the node's own kind would have several of the sets that ties, or gaps, join, instead of one.
    return are_between(web, sets, kind == "all") and not any(part[0] == kind for part in inside)


def are_between(web, sets, wanted):
    """Whether each two places of unlike sets are tied, or none are, as wanted."""
    pairs = [(one, other) for at, one in enumerate(sets) for other in sets[:at]]
    return all(tied(web, a, b) == wanted for one, other in pairs for a in one for b in other)


def is_close(web, tree, sets):
    """Whether the sets are modules, and no several of them together are one, but all."""
    places = places_in(tree)
    # Two sets are all tied or all parted. Three or more that have no other modules are joined by ties and by gaps.
    if len(sets) == 2 or not all(least_among(web, places, part) == part for part in sets):
        return False
    shape = shape_of(web, tree)
    numbers = list(range(len(sets)))
    return all(least_module(shape, [a, b]) == numbers for b in numbers for a in numbers[:b])
