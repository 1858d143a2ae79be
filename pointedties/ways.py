"""All ways of pointing a web, and how many there are."""

from pointedties.forcings import forcings_of
from pointedties.leading import can_be_pointed, first_round, follow, pointing_of
from pointedties.modules import parts_of


def count_ways(web):
    """How many led pointings a web has."""
    # Far too many to be gone through: each node of the tree of parts is pointed by itself instead.
    if web[0] == 0:
        return 1
    return count_within(parts_of(web)) if can_be_pointed(web) else 0


def all_ways(web):
    """The rising list of all led pointings."""
    forcings = forcings_of(web)
    if first_round(forcings) is not None:
        return []
    return ways_with(web, forcings, {})


def common_to(web, ways):
    """The rising list of the arrows that are in each of some pointings, one at least."""
    return sorted([arrow for arrow in ways[0] if all(arrow in way for way in ways)])


def count_within(tree):
    """In how many ways the ties among the places of a tree can be pointed, in a web without rounds."""
    kind, inside = tree
    if kind == "place":
        return 1
    many = count_between(kind, len(inside))
    for part in inside:
        many *= count_within(part)
    return many


def count_between(kind, size):
    """In how many ways the ties between the trees of a node, so many, can be pointed."""
    if kind == "apart":
        return 1
    if kind == "close":
        return 2
    # Any row of the trees tells one way.
    many = 1
    for factor in range(2, size + 1):
        many *= factor
    return many


def ways_with(web, forcings, known):
    """The rising list of the led pointings that have all known arrows, where what they lead to is among them."""
    left = [(a, b) for a, b in web[1] if (a, b) not in known and (b, a) not in known]
    if not left:
        return [pointing_of(web, known)]
    a, b = left[0]
    told = []
    # All ties ahead of this one are settled, so those ways in which it goes up stand ahead.
    for arrow in ((a, b), (b, a)):
        more = {one: True for one in known}
        follow(forcings, more, arrow)
        told.extend(ways_with(web, forcings, more))
    return told
