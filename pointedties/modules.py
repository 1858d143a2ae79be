"""Modules: sets of places that all others see alike, and the tree of parts that a web is put together of."""

from pointedties.webs import gaps_of, is_place, part_of, tied


def is_module(web, places):
    """Whether places are a rising list, one at least, and each place out of it is tied to all of these or to none."""
    if not isinstance(places, list) or not places:
        return False
    if not all(is_place(web, place) for place in places):
        return False
    # What least_module tells rises, so places that don't rise are unlike it.
    return least_module(web, places) == places


def least_module(web, places):
    """The least module that has all these places, one at least, as a rising list."""
    return least_among(web, list(range(web[0])), places)


def parts_of(web):
    """The tree of parts of a web; None of no places."""
    if web[0] == 0:
        return None
    return tree_of(web, gaps_of(web), list(range(web[0])))


def places_in(tree):
    """The rising list of the places of a tree."""
    kind, inside = tree
    if kind == "place":
        return [inside]
    return sorted([place for part in inside for place in places_in(part)])


def shape_of(web, tree):
    """The web of the least places of the trees of a tree."""
    return part_of(web, [places_in(part)[0] for part in tree[1]])


def least_among(web, everything, places):
    """The least module that has all these places where there are no other places than everything."""
    inside = {place: True for place in places}
    grown = True
    while grown:
        parted = [place for place in everything if place not in inside and is_parting(web, place, inside)]
        for place in parted:
            inside[place] = True
        grown = bool(parted)
    return sorted(inside)


def is_parting(web, place, places):
    """Whether a place is tied to some of these, but not to all."""
    ties = [tied(web, place, other) for other in places]
    return any(ties) and not all(ties)


def tree_of(web, gaps, places):
    if len(places) == 1:
        return ("place", places[0])
    kind = "apart"
    sets = joined_sets(web, places)
    if len(sets) == 1:
        kind = "all"
        sets = joined_sets(gaps, places)
    if len(sets) == 1:
        kind = "close"
        sets = greatest_modules(web, places)
    return (kind, tuple([tree_of(web, gaps, part) for part in sets]))


def joined_sets(web, places):
    """The sets of places that ties join, as rising lists, by their least places."""
    sets = []
    for place in places:
        near = [part for part in sets if any(tied(web, place, other) for other in part)]
        far = [part for part in sets if part not in near]
        sets = far + [[other for part in near for other in part] + [place]]
    return sorted([sorted(part) for part in sets])


def greatest_modules(web, places):
    """The greatest modules that are not all of the places, where both ties and gaps join all of these."""
    sets = []
    left = places
    while left:
        first = left[0]
        # No two of them have a place in common, so two places are in one wherever some module has both, but not all.
        part = [place for place in left if least_among(web, places, [first, place]) != places]
        sets.append(part)
        left = [place for place in left if place not in part]
    return sets
