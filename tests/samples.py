"""Webs, pointings and odd things that several tests go through."""

from itertools import combinations, permutations, product

from pointedties.forcings import classes
from pointedties.webs import tied

TWELVE_ROWS = (
    list(range(12)), list(range(11, -1, -1)), [7, 0, 11, 3, 5, 1, 9, 2, 10, 4, 8, 6],
    [1, 0, 3, 2, 5, 4, 7, 6, 9, 8, 11, 10], [6, 7, 8, 9, 10, 11, 0, 1, 2, 3, 4, 5],
    [11, 9, 10, 6, 8, 7, 3, 5, 4, 0, 2, 1], [0, 2, 4, 6, 8, 10, 1, 3, 5, 7, 9, 11],
)


def all_webs(many):
    pairs = list(combinations(range(many), 2))
    for size in range(len(pairs) + 1):
        for ties in combinations(pairs, size):
            yield (many, ties)


def small_webs():
    """All webs of up to four places."""
    for many in range(5):
        yield from all_webs(many)


def five_webs():
    """All webs of up to five places."""
    yield from small_webs()
    yield from all_webs(5)


def full(many):
    return (many, tuple(combinations(range(many), 2)))


def line(many):
    return (many, tuple((k, k + 1) for k in range(many - 1)))


def ring(many):
    return (many, tuple(sorted([(k, k + 1) for k in range(many - 1)] + [(0, many - 1)])))


def groups(*sizes):
    """Places in groups, tied where they are in two unlike ones."""
    group_of = [at for at, size in enumerate(sizes) for _ in range(size)]
    many = len(group_of)
    return (many, tuple((a, b) for a, b in combinations(range(many), 2) if group_of[a] != group_of[b]))


def beside(*webs):
    """Webs beside one another, without ties between them."""
    many, ties = 0, ()
    for size, inner in webs:
        ties += tuple((many + a, many + b) for a, b in inner)
        many += size
    return (many, ties)


def tied_together(*webs):
    """Webs beside one another, with all ties between them."""
    many, ties = 0, []
    for size, inner in webs:
        ties += [(many + a, many + b) for a, b in inner]
        ties += [(a, many + b) for a in range(many) for b in range(size)]
        many += size
    return (many, tuple(sorted(ties)))


def star(many):
    """One place tied to all others, which aren't tied."""
    return (many, tuple((0, k) for k in range(1, many)))


def crossed(row):
    """The web of a row's places, tied where the greater one stands ahead: it can be pointed."""
    many = len(row)
    return (many, tuple((a, b) for a, b in combinations(range(many), 2) if row.index(b) < row.index(a)))


def twelve_webs():
    """Webs of twelve places that can be pointed."""
    yield from ((12, ()), full(12), line(12), ring(12), groups(3, 4, 5), groups(1, 2, 2, 7), groups(*[2] * 6))
    yield from (beside(full(4), full(4), full(4)), beside(line(5), ring(6), full(1)), beside(groups(2, 3), full(7)))
    yield crossed([3, 7, 0, 11, 5, 1, 9, 2, 10, 4, 8, 6])
    yield crossed([11, 9, 10, 6, 8, 7, 3, 5, 4, 0, 2, 1])
    yield crossed([1, 3, 0, 5, 2, 7, 4, 9, 6, 11, 8, 10])
    yield crossed([2, 1, 0, 5, 4, 3, 8, 7, 6, 11, 10, 9])


def barred_webs():
    """Webs that have a round."""
    yield from (ring(5), ring(7), ring(9), ring(11), beside(ring(5), ring(7)), beside(line(5), ring(7)))
    for many in range(6, 13):
        # The gaps of a ring.
        yield (many, tuple(tie for tie in full(many)[1] if tie not in ring(many)[1]))


def all_arrows(web):
    """All arrows of a web, as they rise."""
    return sorted([(a, b) for a, b in web[1]] + [(b, a) for a, b in web[1]])


def have_gap(web, a, b):
    return a != b and (a, b) not in web[1] and (b, a) not in web[1]


def force_by_words(web, one, other):
    """Whether two arrows force one another, by the words of the document."""
    if one == other:
        return False
    (a, b), (c, d) = one, other
    return (a == c and have_gap(web, b, d)) or (b == d and have_gap(web, a, c))


def joined_by_words(web):
    """All classes, made by joining the arrows of each forcing one by one."""
    class_at = {arrow: [arrow] for arrow in all_arrows(web)}
    for one in all_arrows(web):
        for other in all_arrows(web):
            if force_by_words(web, one, other) and other not in class_at[one]:
                class_at[one] += class_at[other]
                for arrow in class_at[other]:
                    class_at[arrow] = class_at[one]
    return sorted({tuple(sorted(members)) for members in class_at.values()})


def bundles_by_words(web):
    """All bundles, the ties of each class, as they rise."""
    return sorted({tuple(sorted({tuple(sorted(arrow)) for arrow in members})) for members in joined_by_words(web)})


def led_by_words(web):
    """All led pointings, as they rise, gone through one by one."""
    return sorted(pointing for pointing in all_pointings(web) if is_led_by_words(pointing))


def is_led_by_words(pointing):
    there = set(pointing)
    return all((a, d) in there for a, b in pointing for c, d in pointing if b == c)


def all_pointings(web):
    for ups in product((True, False), repeat=len(web[1])):
        yield tuple((a, b) if up else (b, a) for up, (a, b) in zip(ups, web[1]))


def turned(arrow):
    return (arrow[1], arrow[0])


def led_by_bundles(web):
    """All led pointings, as they rise: a led one has all arrows of a class, or none, so each bundle goes either way."""
    found = []
    if any(turned(arrow) in members for members in classes(web) for arrow in members):
        return found
    # Of a class and the turned one the lesser.
    firsts = [members for members in classes(web) if members < sorted(turned(arrow) for arrow in members)]
    for ups in product((True, False), repeat=len(firsts)):
        there = {arrow if up else turned(arrow) for up, members in zip(ups, firsts) for arrow in members}
        pointing = tuple(tie if tie in there else turned(tie) for tie in web[1])
        if is_led_by_words(pointing):
            found.append(pointing)
    return sorted(found)


def all_rows(many):
    return [list(row) for row in permutations(range(many))]


def rows_by_words(web, pointing):
    """All rows that a pointing lets stand, gone through list by list."""
    return [row for row in all_rows(web[0]) if all(row.index(a) < row.index(b) for a, b in pointing)]


def chains_by_words(web, pointing):
    """All chains of a led pointing, as tuples rise, put together place by place."""
    found = [(place,) for place in range(web[0])]
    for chain in found:
        found += [chain + (b,) for a, b in pointing if a == chain[-1]]
    return sorted(found)


def rising_lists(places):
    """All rising lists of some of these places, shorter ones first."""
    for size in range(len(places) + 1):
        for chosen in combinations(places, size):
            yield list(chosen)


def tied_sets(web):
    """All rising lists of places of which each two are tied, that of no places too."""
    lists = rising_lists(range(web[0]))
    return [places for places in lists if all(tied(web, a, b) for a, b in combinations(places, 2))]


def place(number):
    return ("place", number)


def nodes_of(tree):
    yield tree
    if tree[0] != "place":
        for part in tree[1]:
            yield from nodes_of(part)


def nested(kind, depth, inside):
    """A thing within that many lists or tuples."""
    thing = inside
    for _ in range(depth):
        thing = kind([thing])
    return thing


def is_number_by_words(thing):
    return isinstance(thing, int) and thing is not True and thing is not False


def are_places(web, things):
    return all(is_number_by_words(thing) and 0 <= thing < web[0] for thing in things)


def is_chain_by_words(web, thing):
    if not isinstance(thing, tuple) or not are_places(web, thing) or len(set(thing)) < len(thing):
        return False
    return all(tied(web, a, b) for a, b in combinations(thing, 2))


def is_lot_by_words(web, thing):
    if not isinstance(thing, list) or not are_places(web, thing) or thing != sorted(set(thing)):
        return False
    return not any(tied(web, a, b) for a, b in combinations(thing, 2))


def spoilt_places(web, places):
    """A tuple or a list of places spoilt in one thing."""
    kind = type(places)
    yield from (list(places) if kind is tuple else tuple(places), kind([places]), str(places), kind(reversed(places)))
    yield from (places + places, places + places[:1], None, True, 0, (), [], "")
    for at, place in enumerate(places):
        yield places[:at] + places[at + 1:]
        others = (place - 1, place + 1, -1, -place - 1, web[0], 10 ** 30, str(place), None, True, False)
        yield from (places[:at] + kind([other]) + places[at + 1:] for other in others + ([place], (place,)))
        yield from (places[:at] + kind([other]) + places[at:] for other in list(range(web[0] + 1)) + [None, True, ""])
    yield from (places + kind([other]) for other in range(-1, web[0] + 1))


def odd_things():
    """Things that are neither webs nor pointings of a web with ties."""
    yield from (None, True, False, 0, 1, -1, 2, 10 ** 30, "", "web", "01", "(0, ())", [], [()], [[], []])
    yield from ((None,), (True,), (0,), ("",), ([],), ((),), (((),),), ((), ()), ((), 0), (None, None))
    yield from (((), (), ()), [0, ()], [0, []], (0, []), ("0", ()), (0, ""), (0, None), (0, 0), (0, ((),)))
    for depth in (1, 2, 29, 30):
        for inside in (None, True, 1, "x"):
            yield nested(list, depth, inside)
            yield nested(tuple, depth, inside)
    deep = nested(tuple, 27, 1)
    yield from ((2, deep), (2, (deep,)), (2, ((0, deep),)), (deep, ()), ((deep, 1),), ((0, deep),), (2, ((deep, 1),)))
    deep = nested(list, 27, "x")
    yield from ((2, deep), (2, (deep,)), (2, ((0, deep),)), (deep, ()), ((deep, 1),), ((0, deep),), (2, ((deep, 1),)))
