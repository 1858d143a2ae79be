"""Webs, pointings and odd things that several tests go through."""

from itertools import combinations, product


def all_webs(many):
    pairs = list(combinations(range(many), 2))
    for size in range(len(pairs) + 1):
        for ties in combinations(pairs, size):
            yield (many, ties)


def small_webs():
    """All webs of up to four places."""
    for many in range(5):
        yield from all_webs(many)


def all_pointings(web):
    for ups in product((True, False), repeat=len(web[1])):
        yield tuple((a, b) if up else (b, a) for up, (a, b) in zip(ups, web[1]))


def nested(kind, depth, inside):
    """A thing within that many lists or tuples."""
    thing = inside
    for _ in range(depth):
        thing = kind([thing])
    return thing


def odd_things():
    """Things that are neither webs nor pointings of a web with ties."""
    yield from (None, True, False, 0, 1, -1, 2, 10 ** 30, "", "web", "01", "(0, ())", [], [()], [[], []])
    yield from ((None,), (True,), (0,), ("",), ([],), ((),), (((),),), ((), ()), ((), 0), (None, None))
    yield from (((), (), ()), [0, ()], [0, []], (0, []), ("0", ()), (0, ""), (0, None), (0, 0), (0, ((),)))
    for depth in (1, 2, 29, 30):
        for inside in (None, True, 1, "x"):
            yield nested(list, depth, inside)
            yield nested(tuple, depth, inside)
    deep = nested(tuple, 27, 1)
    yield from ((2, deep), (2, (deep,)), (2, ((0, deep),)), (deep, ()), ((deep, 1),), ((0, deep),), (2, ((deep, 1),)))
    deep = nested(list, 27, "x")
    yield from ((2, deep), (2, (deep,)), (2, ((0, deep),)), (deep, ()), ((deep, 1),), ((0, deep),), (2, ((deep, 1),)))
