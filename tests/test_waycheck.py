import unittest
from itertools import product

from pointedties.forcings import forcing_way
from pointedties.leading import pointed
from pointedties.waycheck import shows_round, shows_way
from tests.samples import (
    all_arrows, barred_webs, beside, five_webs, force_by_words, full, groups, line, odd_things, ring, small_webs,
)

WEBS = (line(4), line(5), ring(4), ring(5), ring(6), ring(7), groups(2, 3), groups(1, 2, 2), beside(line(3), ring(5)))


def ways_of(web):
    """Each two arrows of a web that a way joins, with the told way."""
    for one in all_arrows(web):
        for other in all_arrows(web):
            way = forcing_way(web, one, other)
            if way is not None:
                yield one, other, way


def is_walk_by_words(web, arrows):
    return all(force_by_words(web, one, other) for one, other in zip(arrows, arrows[1:]))


def spoilt(web, way):
    """A way spoilt in one thing, in manners that leave neither a way nor a round."""
    yield from ([], tuple(way), [way], (way,), [tuple(way)], [list(arrow) for arrow in way], str(way), None, True, 0)
    for at, (a, b) in enumerate(way):
        for other in no_arrows(web, a, b):
            yield way[:at] + [other] + way[at + 1:]
            yield way[:at] + [other] + way[at:]
        yield way[:at] + [(a, b)] + way[at:]
    for end in (None, [], (), 0, True, "", way, tuple(way)):
        yield way + [end]
        yield [end] + way


def no_arrows(web, a, b):
    """Things that look like the arrow (a, b), or like others, and are none."""
    yield from ((a, a), (b, b), (a, web[0]), (-1, b), (a, -b - 1), (a, b + 10 ** 30))
    yield from ((a, c) for c in range(web[0]) if (a, c) not in all_arrows(web))
    yield from ([a, b], (a,), (a, b, b), (b, a, b), ((a, b),), [(a, b)], (), [], a, f"{a}{b}", None, True, False, "")
    yield from ((f"{a}", b), (a, f"{b}"), (a, [b]), ((a,), b), (None, b), (a, None))
    if a in (0, 1):
        yield (bool(a), b)
    if b in (0, 1):
        yield (a, bool(b))


class ShowsWayTest(unittest.TestCase):
    def test_told_ways(self):
        for web in small_webs():
            for one, other, way in ways_of(web):
                self.assertIs(shows_way(web, one, other, way), True, (web, way))
        for web in WEBS:
            for one, other, way in ways_of(web):
                self.assertIs(shows_way(web, one, other, way), True, (web, way))

    def test_one_arrow(self):
        for web in five_webs():
            for one in all_arrows(web):
                for other in all_arrows(web):
                    self.assertIs(shows_way(web, one, one, [other]), one == other)
                    self.assertIs(shows_way(web, one, other, [one]), one == other)

    def test_there_and_back(self):
        for web in WEBS:
            for one, other, way in ways_of(web):
                back = way[::-1]
                self.assertIs(shows_way(web, other, one, back), True)
                self.assertIs(shows_way(web, one, one, way + back[1:]), True)
                self.assertIs(shows_way(web, one, other, way + back[1:] + way[1:]), True)
                self.assertIs(shows_way(web, one, other, (way + back[1:-1]) * 20 + way), len(way) > 1)

    def test_from_or_to_another_arrow(self):
        for web in WEBS:
            arrows = all_arrows(web)
            for one, other, way in ways_of(web):
                for arrow in arrows:
                    self.assertIs(shows_way(web, arrow, other, way), arrow == one)
                    self.assertIs(shows_way(web, one, arrow, way), arrow == other)

    def test_all_short_lists(self):
        for web in (line(3), line(4), full(3), groups(2, 2)):
            arrows = all_arrows(web)
            for size in range(4):
                for way in product(arrows, repeat=size):
                    for one, other in ((arrows[0], arrows[-1]), (arrows[0], arrows[1]), (arrows[2], arrows[2])):
                        wanted = size > 0 and (way[0], way[-1]) == (one, other) and is_walk_by_words(web, way)
                        self.assertIs(shows_way(web, one, other, list(way)), wanted)
                        self.assertIs(shows_way(web, one, other, way), False)

    def test_an_arrow_left_out_or_turned(self):
        for web in WEBS:
            for one, other, way in ways_of(web):
                for at, (a, b) in enumerate(way):
                    # The told way has the fewest arrows, so it bears no gap.
                    self.assertIs(shows_way(web, one, other, way[:at] + way[at + 1:]), False)
                    self.assertIs(shows_way(web, one, other, way[:at] + [(b, a)] + way[at + 1:]), False)

    def test_spoilt_in_one_thing(self):
        for web in WEBS:
            for one, other, way in ways_of(web):
                if len(way) < 5:
                    for thing in spoilt(web, way):
                        self.assertIs(shows_way(web, one, other, thing), False, (web, thing))

    def test_true_for_one(self):
        web = line(3)
        self.assertIs(shows_way(web, (0, 1), (2, 1), [(0, 1), (2, 1)]), True)
        for thing in ([(0, True), (2, 1)], [(False, 1), (2, 1)], [(0, 1), (2, True)], [(False, True), (2, True)]):
            self.assertIs(shows_way(web, (0, 1), (2, 1), thing), False)

    def test_a_way_of_another_web(self):
        way = forcing_way(line(4), (0, 1), (2, 3))
        self.assertIs(shows_way(line(4), (0, 1), (2, 3), way), True)
        self.assertIs(shows_way(full(4), (0, 1), (2, 3), way), False)
        self.assertIs(shows_way((4, ((0, 1), (2, 3))), (0, 1), (2, 3), way), False)
        self.assertIs(shows_way((4, ((0, 1), (0, 2), (1, 2), (2, 3))), (0, 1), (2, 3), way), False)

    def test_things_of_any_kind(self):
        for thing in odd_things():
            for web in (line(2), ring(5)):
                self.assertIs(shows_way(web, (0, 1), (0, 1), thing), False, thing)
                self.assertIs(shows_way(web, (0, 1), (0, 1), [thing]), False, thing)
                self.assertIs(shows_way(web, (0, 1), (0, 1), [(0, 1), thing, (0, 1)]), False, thing)
                self.assertIs(shows_way(web, (0, 1), (0, 1), [(0, 1), (thing, 1)]), False, thing)
                self.assertIs(shows_way(web, (0, 1), (0, 1), [(0, thing)]), thing == 1 and thing is not True, thing)


class ShowsRoundTest(unittest.TestCase):
    def rounds(self):
        for web in barred_webs():
            kind, found = pointed(web)
            self.assertEqual(kind, "barred")
            yield web, found

    def test_told_rounds(self):
        for web, found in self.rounds():
            self.assertIs(shows_round(web, found), True, (web, found))

    def test_ways_to_the_arrow_turned(self):
        for web in WEBS:
            for one, other, way in ways_of(web):
                self.assertIs(shows_round(web, way), one == (other[1], other[0]))

    def test_longer_ones(self):
        for web, found in self.rounds():
            back = found[::-1]
            self.assertIs(shows_round(web, back), True)
            self.assertIs(shows_round(web, found + back[1:] + found[1:]), True)
            self.assertIs(shows_round(web, found[:2] + found[:2] + found[1:]), False)
            self.assertIs(shows_round(web, found[:2] + found), True)
            self.assertIs(shows_round(web, found + back[1:]), False)
            onward = found + [(b, a) for a, b in found[1:]]
            self.assertIs(shows_round(web, onward), False)
            self.assertIs(shows_round(web, onward + found[1:]), True)

    def test_an_arrow_left_out_or_turned(self):
        for web, found in self.rounds():
            for at, (a, b) in enumerate(found):
                for thing in (found[:at] + found[at + 1:], found[:at] + [(b, a)] + found[at + 1:]):
                    self.assertIs(shows_round(web, thing), False, (web, thing))

    def test_spoilt_in_one_thing(self):
        for web, found in self.rounds():
            for thing in spoilt(web, found):
                self.assertIs(shows_round(web, thing), False, (web, thing))

    def test_all_short_lists(self):
        for web in (line(2), line(3), full(3), groups(2, 2)):
            for size in range(5):
                for arrows in product(all_arrows(web), repeat=size):
                    self.assertIs(shows_round(web, list(arrows)), False)

    def test_of_another_web(self):
        found = pointed(ring(5))[1]
        self.assertIs(shows_round(ring(5), found), True)
        self.assertIs(shows_round(beside(ring(5), full(3)), found), True)
        for web in (full(5), line(5), ring(6), (0, ()), (5, ())):
            self.assertIs(shows_round(web, found), False)

    def test_without_arrows_and_with_one(self):
        for web in small_webs():
            self.assertIs(shows_round(web, []), False)
            self.assertIs(shows_round(web, ()), False)
            for a, b in all_arrows(web):
                self.assertIs(shows_round(web, [(a, b)]), False)
                self.assertIs(shows_round(web, [(a, b), (b, a)]), False)

    def test_things_of_any_kind(self):
        found = pointed(ring(5))[1]
        for thing in odd_things():
            self.assertIs(shows_round(ring(5), thing), False, thing)
            self.assertIs(shows_round(ring(5), [thing]), False, thing)
            self.assertIs(shows_round(ring(5), found + [thing]), False, thing)
            self.assertIs(shows_round(ring(5), [thing] + found), False, thing)
            self.assertIs(shows_round((0, ()), thing), False, thing)


if __name__ == "__main__":
    unittest.main()
