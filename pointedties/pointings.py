"""Pointings: one arrow for each tie of a web, and whether two in a row lead to a third."""

from pointedties.kinds import is_pair
from pointedties.webs import tie_of


def is_pointing(web, thing):
    """Whether a thing is a pointing of a web."""
    ties = web[1]
    if not isinstance(thing, tuple) or len(thing) != len(ties):
        return False
    return all(is_pair(arrow) and tie_of(arrow[0], arrow[1]) == tie for arrow, tie in zip(thing, ties))


def is_led(web, pointing):
    """Whether it is a pointing, and wherever one arrow leads on to another one, a third one leads straight there."""
    return is_pointing(web, pointing) and first_break(web, pointing) is None


def first_break(web, pointing):
    """The least (a, b, c) with arrows from a to b and from b to c, but none from a to c; None if there is none."""
    there = {arrow: True for arrow in pointing}
    ends = ends_from(web[0], pointing)
    for a in range(web[0]):
        for b in ends[a]:
            for c in ends[b]:
                if (a, c) not in there:
                    return (a, b, c)
    return None


def ends_from(many, pointing):
    """For each place the rising list of the places to which arrows go from it."""
    ends = [[] for place in range(many)]
    for a, b in sorted(pointing):
        ends[a].append(b)
    return ends


def turned_about(pointing):
    """The pointing with each arrow the other way."""
    return tuple([(b, a) for a, b in pointing])


def by_row(web, row):
    """The pointing in which each arrow goes from the place that stands ahead in row, a list of all places."""
    stand = stands_in(row)
    return tuple([(a, b) if stand[a] < stand[b] else (b, a) for a, b in web[1]])


def stands_in(row):
    """For each place how many stand ahead of it in a row."""
    return {place: at for at, place in enumerate(row)}


def row_by(web, pointing):
    """The first list of all places in which each arrow of a led pointing goes from a place ahead."""
    many = web[0]
    ends = ends_from(many, pointing)
    # How many places still have to stand ahead of each one.
    waits = [0] * many
    for a, b in pointing:
        waits[b] += 1
    row = []
    left = list(range(many))
    while left:
        place = min([p for p in left if waits[p] == 0])
        row.append(place)
        left.remove(place)
        for end in ends[place]:
            waits[end] -= 1
    return row
