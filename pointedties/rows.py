"""Two rows crossed: places are tied where they stand otherwise in both."""

from pointedties.kinds import is_number
from pointedties.pointings import by_row, stands_in
from pointedties.webs import tie_of


def is_row(many, thing):
    """Whether a thing is a list of all numbers from 0 to below many, each once."""
    if not isinstance(thing, list) or not all(is_number(number) for number in thing):
        return False
    return sorted(thing) == list(range(many))


def crossed_web(one, other):
    """The web in which a and b are tied where a stands ahead of b in just one of two rows."""
    many = len(one)
    first = stands_in(one)
    second = stands_in(other)
    pairs = [(a, b) for a in range(many) for b in range(a + 1, many)]
    return (many, tuple([(a, b) for a, b in pairs if (first[a] < first[b]) != (second[a] < second[b])]))


def crossed_pointing(one, other):
    """The pointing of that web in which each arrow goes from the place that stands ahead in one."""
    return by_row(crossed_web(one, other), one)


def crossings(one, other):
    """The first of the shortest lists of neighbours to be exchanged that lead from one to other."""
    goal = stands_in(other)
    row = list(one)
    told = []
    wrong = wrong_neighbours(row, goal)
    while wrong:
        # Each exchange of wrong neighbours leaves one less to do, so the least one may always go first.
        tie, at = min(wrong)
        told.append(tie)
        row[at], row[at + 1] = row[at + 1], row[at]
        wrong = wrong_neighbours(row, goal)
    return told


def wrong_neighbours(row, goal):
    """The neighbours that stand otherwise by goal, as ties, each with where it stands in row."""
    pairs = list(zip(row, row[1:]))
    return [(tie_of(a, b), at) for at, (a, b) in enumerate(pairs) if goal[b] < goal[a]]
