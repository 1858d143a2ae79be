"""Forcings: how the way of one tie settles that of another one."""

from pointedties.pointings import turned_about
from pointedties.webs import tie_of


def forced(web, arrow):
    """The rising list of the arrows that an arrow forces."""
    return forced_by(tied_places(web), arrow)


def class_of(web, arrow):
    """The rising list of all arrows to which forcings lead from an arrow, itself too."""
    return sorted(steps_from(forcings_of(web), arrow))


def classes(web):
    """The rising list of all classes; each arrow is in just one."""
    return classes_in(forcings_of(web))


def bundles(web):
    """The rising list of all bundles, the ties of a class each."""
    told = []
    for arrows in classes(web):
        ties = ties_of(arrows)
        # A class and the one with all its arrows turned have the same ties.
        if ties not in told:
            told.append(ties)
    return sorted(told)


def forcing_way(web, one, other):
    """The first of the shortest lists of arrows from one to other, each forcing the next; None if there is none."""
    return way_in(forcings_of(web), one, other)


def ties_of(arrows):
    """The rising list of the ties that arrows point."""
    return sorted({tie_of(a, b) for a, b in arrows})


def tied_places(web):
    """For each place the list of the places that it is tied to."""
    near = [[] for place in range(web[0])]
    for a, b in web[1]:
        near[a].append(b)
        near[b].append(a)
    return near


def forced_by(near, arrow):
    a, b = arrow
    ends = [(a, c) for c in near[a] if c != b and c not in near[b]]
    begins = [(c, b) for c in near[b] if c != a and c not in near[a]]
    return sorted(ends + begins)


def forcings_of(web):
    """For each arrow, as they rise, the rising list of the arrows that it forces."""
    near = tied_places(web)
    return {arrow: forced_by(near, arrow) for arrow in sorted(web[1] + turned_about(web[1]))}


def steps_from(forcings, arrow):
    """For each arrow to which forcings lead from an arrow how many steps it takes at least."""
    steps = {arrow: 0}
    newest = [arrow]
    while newest:
        found = []
        for one in newest:
            for other in forcings[one]:
                if other not in steps:
                    steps[other] = steps[one] + 1
                    found.append(other)
        newest = found
    return steps


def classes_in(forcings):
    told = []
    placed = {}
    # The arrows rise here, so each class is found by its least one, and the classes rise, too.
    for arrow in forcings:
        if arrow not in placed:
            members = sorted(steps_from(forcings, arrow))
            told.append(members)
            for member in members:
                placed[member] = True
    return told


def way_in(forcings, one, other):
    # Forcing goes both ways, so the steps counted from the far end are those that are left to go.
    left = steps_from(forcings, other)
    if one not in left:
        return None
    last = one
    way = [last]
    while last != other:
        last = min([arrow for arrow in forcings[last] if left[arrow] < left[last]])
        way.append(last)
    return way
