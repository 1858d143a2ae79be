"""A small checker of ways and rounds; it walks them by the ties alone, and trusts nothing that tells them."""

from pointedties.kinds import is_pair
from pointedties.webs import tied


def shows_way(web, one, other, thing):
    """Whether a thing is a list of arrows from one to other, each forcing the next one."""
    return is_walk(web, thing) and thing[0] == one and thing[-1] == other


def shows_round(web, thing):
    """Whether a thing is a list of arrows, each forcing the next one, whose last one is its first one turned."""
    return is_walk(web, thing) and thing[-1] == (thing[0][1], thing[0][0])


def is_walk(web, thing):
    """Whether a thing is a list of arrows, one at least, each forcing the next one."""
    if not isinstance(thing, list) or not thing:
        return False
    # All are known as arrows first, as nothing else has a begin and an end to compare.
    if not all(is_arrow(web, arrow) for arrow in thing):
        return False
    return all(force(web, arrow, later) for arrow, later in zip(thing, thing[1:]))


def is_arrow(web, thing):
    return is_pair(thing) and tied(web, thing[0], thing[1])


def force(web, one, other):
    """Whether two arrows force one another."""
    if one[0] == other[0]:
        return has_gap(web, one[1], other[1])
    return one[1] == other[1] and has_gap(web, one[0], other[0])


def has_gap(web, a, b):
    return a != b and not tied(web, a, b)
