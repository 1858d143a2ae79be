import unittest
from itertools import combinations

from pointedties.modulecheck import shows_parts
from pointedties.modules import parts_of
from pointedties.webs import gaps_of, put_for, renumbered
from tests.samples import (
    all_webs, barred_webs, beside, five_webs, full, groups, line, nested, odd_things, place, ring, star, tied_together,
    twelve_webs,
)

# Each place is tied to all or to none of those behind it, by turns.
DEEP = (12, tuple((a, b) for a, b in full(12)[1] if a % 2 == 0))
WEBS = (
    (1, ()), (2, ()), line(2), line(3), (3, ((0, 2),)), line(4), ring(5), star(5), groups(2, 3), groups(1, 2, 2),
    full(4), (5, ()), beside(full(2), line(3)), beside(line(4), full(2)), tied_together(line(4), (2, ())),
    beside(ring(5), line(2)), put_for(line(4), 1, line(4)), put_for(line(4), 2, beside(full(2), full(1))),
    put_for(ring(5), 0, full(3)), renumbered(put_for(line(4), 0, (3, ((0, 1),))), [5, 2, 3, 4, 0, 1]),
    tied_together(*[beside(line(2), (1, ()))] * 3), DEEP,
)
KINDS = ("place", "apart", "all", "close")


def bent(tree):
    """A tree bent in one thing, at any of its nodes."""
    yield from bent_here(tree)
    kind, inside = tree
    if kind != "place":
        for at, part in enumerate(inside):
            for other in bent(part):
                yield (kind, inside[:at] + (other,) + inside[at + 1:])


def bent_here(tree):
    kind, inside = tree
    for word in KINDS + ("", "close ", "ALL", "parts", None, True, 0, 1, ("all",), ["all"], [], ()):
        yield (word, inside)
    yield from ([kind, inside], (kind,), (kind, inside, inside), (inside, kind), (tree,), [tree], inside, kind, None)
    yield from ((kind, other) for other in (None, True, 0, "", (), [], (tree,), tree))
    yield from ((), [], True, 0, "")
    # A node around a tree.
    for word in KINDS:
        yield from ((word, tree), (word, (tree,)), (word, [tree]), (word, (tree, tree)), (word, ((word, inside), tree)))
    if kind == "place":
        yield from bent_places(inside)
    else:
        yield from bent_trees(kind, inside)


def bent_places(number):
    for other in (number - 1, number + 1, 11, 12, -1, -number - 1, 10 ** 30, str(number), [number], (number,)):
        yield ("place", other)
    if number in (0, 1):
        yield ("place", bool(number))


def bent_trees(kind, inside):
    yield from ((kind, list(inside)), (kind, inside[::-1]), (kind, inside[1:] + inside[:1]), (kind, (inside,)))
    for at, part in enumerate(inside):
        before, after = inside[:at], inside[at + 1:]
        yield from ((kind, before + after), (kind, before + (part, part) + after), (kind, inside + (part,)))
        yield from ((kind, before + (thing,) + after) for thing in (None, True, 0, "", (), [], list(part), part[0]))
        if part[0] != "place":
            # The trees within put up into this node.
            yield (kind, before + part[1] + after)
            yield (kind, tuple(sorted(before + part[1] + after, key=least_of)))
    for one, other in combinations(range(len(inside)), 2):
        swapped = list(inside)
        swapped[one], swapped[other] = inside[other], inside[one]
        yield (kind, tuple(swapped))
        # Some of the trees put down into a node of their own.
        rest = tuple(part for at, part in enumerate(inside) if at not in (one, other))
        for word in ("apart", "all", "close"):
            yield (kind, tuple(sorted(rest + ((word, (inside[one], inside[other])),), key=least_of)))


def least_of(tree):
    return tree[1] if tree[0] == "place" else min(least_of(part) for part in tree[1])


def with_kinds(tree, kinds):
    """A tree with its words exchanged by a dict."""
    if tree[0] == "place":
        return tree
    return (kinds.get(tree[0], tree[0]), tuple(with_kinds(part, kinds) for part in tree[1]))


class ShowsPartsTest(unittest.TestCase):
    def check(self, web, thing):
        # A text of both tells True from 1, and lists from tuples; there is but one tree.
        self.assertIs(shows_parts(web, thing), repr(thing) == repr(parts_of(web)), (web, thing))

    def test_told_trees(self):
        for web in list(five_webs()) + list(WEBS) + list(twelve_webs()) + list(barred_webs()):
            if web[0]:
                self.assertIs(shows_parts(web, parts_of(web)), True, web)
                self.assertIs(shows_parts(gaps_of(web), parts_of(gaps_of(web))), True, web)

    def test_told_trees_of_six_places(self):
        for at, web in enumerate(all_webs(6)):
            if at % 11 == 0:
                self.assertIs(shows_parts(web, parts_of(web)), True, web)

    def test_written_out(self):
        self.assertIs(shows_parts((1, ()), place(0)), True)
        self.assertIs(shows_parts((2, ()), ("apart", (place(0), place(1)))), True)
        self.assertIs(shows_parts(line(2), ("all", (place(0), place(1)))), True)
        self.assertIs(shows_parts(line(4), ("close", tuple(place(p) for p in range(4)))), True)
        self.assertIs(shows_parts(line(3), ("all", (("apart", (place(0), place(2))), place(1)))), True)
        self.assertIs(shows_parts(line(3), ("close", tuple(place(p) for p in range(3)))), False)
        self.assertIs(shows_parts(line(2), ("close", (place(0), place(1)))), False)
        self.assertIs(shows_parts((2, ()), ("close", (place(0), place(1)))), False)
        inner = ("all", (place(1), place(2)))
        self.assertIs(shows_parts(full(3), ("all", tuple(place(p) for p in range(3)))), True)
        self.assertIs(shows_parts(full(3), ("all", (place(0), inner))), False)

    def test_bent_in_one_thing(self):
        for web in WEBS:
            for thing in bent(parts_of(web)):
                self.check(web, thing)

    def test_bent_trees_of_all_small_webs(self):
        for many in range(1, 5):
            for web in all_webs(many):
                for thing in bent(parts_of(web)):
                    self.check(web, thing)

    def test_bent_trees_of_twelve_places(self):
        for web in twelve_webs():
            for at, thing in enumerate(bent(parts_of(web))):
                if at % 5 == 0:
                    self.check(web, thing)

    def test_trees_of_other_webs(self):
        for many in range(1, 5):
            for web in all_webs(many):
                for other in all_webs(many):
                    self.check(web, parts_of(other))
        fives = list(all_webs(5))
        for web in fives[::23]:
            for other in fives[::7]:
                self.check(web, parts_of(other))
        for web in WEBS:
            for other in WEBS:
                self.check(web, parts_of(other))

    def test_greater_modules_and_lesser_ones(self):
        # The trees of a close node are the greatest modules: neither what they are put together of, nor more of them.
        web = put_for(line(4), 1, full(3))
        self.assertIs(shows_parts(web, parts_of(web)), True)
        flat = ("close", tuple(place(p) for p in range(6)))
        self.assertIs(shows_parts(web, flat), False)
        two = ("close", (place(0), ("all", (place(1), place(2))), place(3), place(4), place(5)))
        self.assertIs(shows_parts(web, two), False)
        web = put_for(ring(6), 2, line(4))
        kept = parts_of(web)
        self.assertIs(shows_parts(web, kept), True)
        self.assertIs(shows_parts(web, ("close", tuple(place(p) for p in range(9)))), False)

    def test_all_words_exchanged(self):
        for web in WEBS:
            tree = parts_of(web)
            other = with_kinds(tree, {"all": "apart", "apart": "all"})
            self.check(web, other)
            self.assertIs(shows_parts(gaps_of(web), other), True)
            for word in ("all", "apart", "close"):
                self.check(web, with_kinds(tree, {"all": word, "apart": word, "close": word}))

    def test_things_of_any_kind(self):
        for web in ((1, ()), (2, ()), line(2), line(4), full(12)):
            tree = parts_of(web)
            for thing in odd_things():
                self.check(web, thing)
                for word in KINDS:
                    for one in ((word, thing), (word, (thing, thing)), (word, (tree, thing)), (word, [thing])):
                        self.check(web, one)
                for one in ((thing, tree[1]), (tree[0], thing), (thing, tree), (tree, thing), (thing, thing)):
                    self.check(web, one)
                    self.check(web, list(one))

    def test_deep_things(self):
        for kind in (list, tuple):
            for web in ((1, ()), (2, ()), line(4)):
                self.check(web, nested(kind, 29, parts_of(web)))
        thing = place(0)
        while len(repr(thing)) < 180:
            for word in ("all", "apart", "close"):
                self.check((1, ()), (word, (thing, thing)))
                self.check((2, ()), (word, (thing, place(1))))
            thing = ("all", (thing, place(1)))
        thing = place(0)
        for turn in range(14):
            thing = ("apart" if turn % 2 else "all", (place(turn), thing))
            self.check(DEEP, thing)

    def test_no_places(self):
        for thing in odd_things():
            self.assertIs(shows_parts((1, ()), ("apart", thing)), False)
            self.assertIs(shows_parts((1, ()), ("all", (place(0),))), False)


if __name__ == "__main__":
    unittest.main()
