"""Webs of stretches: two are tied where one ends ahead of where the other one begins."""

from pointedties.leading import pointed
from pointedties.pointings import ends_from, turned_about
from pointedties.webs import tied


def apart_web(stretches):
    """The web of the numbers of stretches, tied where one ends ahead of where the other one begins."""
    many = len(stretches)
    ties = [(a, b) for a in range(many) for b in range(a + 1, many) if are_apart(stretches[a], stretches[b])]
    return (many, tuple(ties))


def apart_pointing(stretches):
    """The pointing of that web in which each arrow goes from the stretch that ends ahead."""
    ties = apart_web(stretches)[1]
    return tuple([(a, b) if ends_ahead(stretches[a], stretches[b]) else (b, a) for a, b in ties])


def stretches_for(web):
    """("stretches", a list of them whose web it is), else ("barred", a round), else ("four", four places)."""
    kind, found = pointed(web)
    if kind == "barred":
        return (kind, found)
    four = first_four(web)
    if four is not None:
        return ("four", four)
    return ("stretches", stretches_by(web[0], found))


def ends_ahead(one, other):
    return one[1] < other[0]


def are_apart(one, other):
    return ends_ahead(one, other) or ends_ahead(other, one)


def first_four(web):
    """The least four places with a tie between the first two, one between the others, and no more; None if none."""
    for a, b in web[1]:
        for c, d in web[1]:
            # Ties with a place in common have a tie between them, too; and of two ties the lesser is found first.
            if not any(tied(web, one, other) for one in (a, b) for other in (c, d)):
                return (a, b, c, d)
    return None


def stretches_by(many, pointing):
    """The stretches of a led pointing that has no such four places."""
    ends = ends_from(many, pointing)
    behind = ends_from(many, turned_about(pointing))
    begins = [len({tuple(other) for other in behind if len(other) < len(own)}) for own in behind]
    return [(begins[place], end_by(begins, ends[place])) for place in range(many)]


def end_by(begins, later):
    """Where a stretch ends, by where all begin, and by the places to which arrows go from it."""
    if not later:
        return max(begins)
    return min([begins[place] for place in later]) - 1
