"""Webs: so many places, and the ties between some of them."""

from pointedties.kinds import is_number, is_pair

# So many places a web has at most where one is kept, or told by a sheet.
MOST = 12


def is_web(thing):
    """Whether a thing is a web, of however many places."""
    if not isinstance(thing, tuple) or len(thing) != 2:
        return False
    many, ties = thing
    if not is_number(many) or many < 0 or not isinstance(ties, tuple):
        return False
    # The kinds are settled first, as things of unlike kinds cannot be compared.
    return all(is_tie(many, tie) for tie in ties) and is_rising(ties)


def is_place(web, thing):
    return is_number(thing) and 0 <= thing < web[0]


def is_tie(many, thing):
    return is_pair(thing) and 0 <= thing[0] < thing[1] < many


def is_rising(row):
    return all(one < later for one, later in zip(row, row[1:]))


def tied(web, a, b):
    """Whether a tie joins the places a and b."""
    return tie_of(a, b) in web[1]


def tie_of(a, b):
    return (a, b) if a < b else (b, a)


def with_tie(web, tie):
    """The web with one tie more."""
    many, ties = web
    return (many, tuple(sorted(ties + (tie,))))


def without_tie(web, tie):
    """The web without one of its ties."""
    many, ties = web
    return (many, tuple([other for other in ties if other != tie]))


def gaps_of(web):
    """The web of as many places that has a tie just where this one has a gap."""
    many, ties = web
    joined = {tie: True for tie in ties}
    gaps = [(a, b) for a in range(many) for b in range(a + 1, many) if (a, b) not in joined]
    return (many, tuple(gaps))


def part_of(web, places):
    """The web of some places, a rising list, numbered by their order there."""
    number_of = {place: number for number, place in enumerate(places)}
    # The places rise, so the ties stay in their order.
    ties = [(number_of[a], number_of[b]) for a, b in web[1] if a in number_of and b in number_of]
    return (len(places), tuple(ties))


def renumbered(web, numbers):
    """The web in which each place p has the number numbers[p]."""
    many, ties = web
    return (many, tuple(sorted([tie_of(numbers[a], numbers[b]) for a, b in ties])))


def put_for(web, place, other):
    """The web in which the web other, of one place or more, stands for a place."""
    many, ties = web
    size, inner = other
    told = [(place + a, place + b) for a, b in inner]
    for a, b in ties:
        firsts = numbers_behind(a, place, size)
        seconds = numbers_behind(b, place, size)
        told.extend([(first, second) for first in firsts for second in seconds])
    return (many + size - 1, tuple(sorted(told)))


def numbers_behind(old, place, size):
    """The numbers that an old place comes to have, once so many places stand for one place."""
    if old == place:
        return list(range(place, place + size))
    return [old if old < place else old + size - 1]
