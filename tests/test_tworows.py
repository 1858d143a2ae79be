import unittest
from itertools import product
from random import Random

from pointedties.errors import Barred, TieError
from pointedties.leading import can_be_pointed, pointed
from pointedties.orders import longest_chain
from pointedties.rows import crossed_web
from pointedties.tworows import most_apart, shows_rows, two_rows
from pointedties.waycheck import shows_round
from pointedties.webfew import greatest_tied
from pointedties.webs import gaps_of
from tests.samples import (
    TWELVE_ROWS, all_rows, all_webs, barred_webs, beside, chains_by_words, five_webs, full, groups, is_number_by_words,
    led_by_words, line, nested, odd_things, ring, small_webs, star, tied_sets, tied_together, twelve_webs,
)


def drawn_rows():
    """Pairs of rows of five to twelve places: any, alike, turned about, a few neighbours exchanged."""
    draws = Random(14)
    for many in range(5, 13):
        for _ in range(6):
            one = draws.sample(range(many), many)
            yield from ((one, draws.sample(range(many), many)), (one, list(one)), (one, one[::-1]))
            other = list(one)
            for _ in range(draws.randrange(1, 6)):
                at = draws.randrange(many - 1)
                other[at], other[at + 1] = other[at + 1], other[at]
            yield one, other
            yield one, other[::-1]


def row_by_arrows(many, arrows):
    """The row in which each place stands behind just as many as there are arrows to it."""
    row = [None] * many
    for place in range(many):
        row[sum(end == place for begin, end in arrows)] = place
    return row


def rows_by_reckoning(many, by_ties, by_gaps):
    """Both rows as point [14] reckons them of two pointings that have an arrow for each two places together."""
    one = row_by_arrows(many, by_ties + by_gaps)
    other = row_by_arrows(many, tuple((b, a) for a, b in by_ties) + by_gaps)
    return one, other


def gaps_barred_webs():
    """Webs that can be pointed, but whose gaps can't."""
    for web in barred_webs():
        if can_be_pointed(gaps_of(web)):
            yield gaps_of(web)
    yield from (ring(8), beside(ring(6), line(3)), tied_together(ring(6), full(2)), beside(ring(6), ring(6)))


def shown_by_words(web, thing):
    """Whether a thing is a pair of rows that tie just what the web ties, by the words of points [13] and [14]."""
    if not isinstance(thing, tuple) or len(thing) != 2:
        return False
    for row in thing:
        if not isinstance(row, list) or not all(is_number_by_words(number) for number in row):
            return False
        if sorted(row) != list(range(web[0])):
            return False
    one, other = thing
    ties = [
        (a, b) for a in range(web[0]) for b in range(a + 1, web[0])
        if (one.index(a) < one.index(b)) != (other.index(a) < other.index(b))
    ]
    return web == (web[0], tuple(ties))


class TwoRowsTest(unittest.TestCase):
    def check(self, web):
        told = two_rows(web)
        self.assertIsInstance(told, tuple)
        kind, by_ties = pointed(web)
        if kind == "barred":
            self.assertEqual(told, ("ties", by_ties), web)
            self.assertIs(shows_round(web, told[1]), True)
            return
        kind, by_gaps = pointed(gaps_of(web))
        if kind == "barred":
            self.assertEqual(told, ("gaps", by_gaps), web)
            self.assertIs(shows_round(gaps_of(web), told[1]), True)
            return
        self.assertEqual(told, ("rows", *rows_by_reckoning(web[0], by_ties, by_gaps)), web)
        self.assertIsInstance(told[1], list)
        self.assertIsInstance(told[2], list)
        self.assertEqual(crossed_web(told[1], told[2]), web)

    def test_webs_of_two_rows(self):
        for one, other in drawn_rows():
            web = crossed_web(one, other)
            self.check(web)
            self.assertEqual(two_rows(web)[0], "rows", web)

    def test_webs_of_two_rows_of_twelve(self):
        for one, other in product(TWELVE_ROWS, repeat=2):
            web = crossed_web(one, other)
            self.check(web)
            self.assertEqual(two_rows(web)[0], "rows", web)

    def test_by_all_led_pointings_of_small_webs(self):
        for web in small_webs():
            by_ties = led_by_words(web)[0]
            by_gaps = led_by_words(gaps_of(web))[0]
            self.assertEqual(two_rows(web), ("rows", *rows_by_reckoning(web[0], by_ties, by_gaps)), web)

    def test_rows_just_where_some_two_rows_give_the_web(self):
        for many in range(6):
            crossed = {crossed_web(one, other) for one, other in product(all_rows(many), repeat=2)}
            for web in all_webs(many):
                self.check(web)
                self.assertEqual(two_rows(web)[0] == "rows", web in crossed, web)

    def test_barred_webs(self):
        for web in barred_webs():
            self.assertEqual(two_rows(web), ("ties", pointed(web)[1]), web)

    def test_webs_whose_gaps_alone_are_barred(self):
        many = 0
        for web in gaps_barred_webs():
            self.assertEqual(pointed(web)[0], "led")
            self.assertEqual(two_rows(web), ("gaps", pointed(gaps_of(web))[1]), web)
            many += 1
        self.assertGreaterEqual(many, 8)

    def test_ties_go_ahead_where_both_are_barred(self):
        for web in (ring(5), ring(7), beside(ring(5), ring(6)), tied_together(ring(5), (1, ()))):
            self.assertEqual(pointed(gaps_of(web))[0], "barred")
            self.assertEqual(two_rows(web), ("ties", pointed(web)[1]), web)

    def test_few_places(self):
        self.assertEqual(two_rows((0, ())), ("rows", [], []))
        self.assertEqual(two_rows((1, ())), ("rows", [0], [0]))
        self.assertEqual(two_rows((2, ())), ("rows", [0, 1], [0, 1]))
        self.assertEqual(two_rows(line(2)), ("rows", [0, 1], [1, 0]))

    def test_known_webs(self):
        self.assertEqual(two_rows(line(4)), ("rows", [0, 2, 1, 3], [1, 0, 3, 2]))
        self.assertEqual(two_rows(ring(4)), ("rows", [0, 2, 1, 3], [1, 3, 0, 2]))
        ahead, about = list(range(12)), list(range(11, -1, -1))
        self.assertEqual(two_rows(full(12)), ("rows", ahead, about))
        self.assertEqual(two_rows((12, ())), ("rows", ahead, ahead))
        self.assertEqual(two_rows(star(12)), ("rows", ahead, ahead[1:] + [0]))
        self.assertEqual(two_rows(groups(3, 4, 5)), ("rows", ahead, ahead[7:] + ahead[3:7] + ahead[:3]))
        self.assertEqual(two_rows(ring(5))[0], "ties")
        self.assertEqual(two_rows(ring(6))[0], "gaps")

    def test_twelve_places(self):
        for web in twelve_webs():
            self.check(web)
            self.check(gaps_of(web))

    def test_both_rows_are_lists_of_their_own(self):
        for web in ((0, ()), (1, ()), (4, ()), full(4), (12, ())):
            kind, one, other = two_rows(web)
            one.append("spoilt")
            self.assertNotIn("spoilt", other)
            self.assertEqual(two_rows(web)[2], other)


class ShowsRowsTest(unittest.TestCase):
    def test_told_rows(self):
        webs = [web for web in five_webs() if two_rows(web)[0] == "rows"]
        webs += [crossed_web(one, other) for one, other in drawn_rows()]
        for web in webs:
            kind, one, other = two_rows(web)
            self.assertIs(shows_rows(web, (one, other)), True, web)
            self.assertIs(shows_rows(web, (other, one)), True, web)
            self.assertIs(shows_rows(web, (one[::-1], other[::-1])), True, web)
            self.assertIs(shows_rows(web, (one, other[::-1])), web == gaps_of(web), web)
            self.assertIs(shows_rows(web, two_rows(web)), False)

    def test_each_two_rows_of_small_webs(self):
        for many in range(4):
            for web in all_webs(many):
                for one, other in product(all_rows(many), repeat=2):
                    self.assertIs(shows_rows(web, (one, other)), shown_by_words(web, (one, other)), (web, one, other))

    def test_rows_of_other_webs(self):
        pairs = list(drawn_rows())
        for at, (one, other) in enumerate(pairs):
            for later in pairs[at:at + 12]:
                web = crossed_web(one, other)
                self.assertIs(shows_rows(web, later), crossed_web(*later) == web, (web, later))

    def test_rows_of_more_or_fewer_places(self):
        # The same ties, but of other places than the web has.
        for many in range(1, 6):
            row = list(range(many))
            self.assertIs(shows_rows((many, ()), (row, row)), True)
            for other in (row + [many], row[:-1], [number + 1 for number in row], [number - 1 for number in row]):
                self.assertIs(shows_rows((many, ()), (other, other)), False)
                self.assertIs(shows_rows((many, ()), (row, other)), False)
                self.assertIs(shows_rows((many, ()), (other, row)), False)

    def spoilt_rows(self, row):
        yield from (tuple(row), [row], (row,), str(row), None, True, 0, [], (), "", row + row, row + [len(row)])
        for at, number in enumerate(row):
            yield row[:at] + row[at + 1:]
            yield row[:at] + [number] + row[at:]
            for thing in (str(number), [number], (number,), None, number + len(row), -1, 10 ** 30, row[at - 1], ""):
                yield row[:at] + [thing] + row[at + 1:]
            if number in (0, 1):
                yield row[:at] + [bool(number)] + row[at + 1:]

    def test_spoilt_in_one_thing(self):
        webs = [line(2), line(4), ring(4), full(4), (4, ()), groups(2, 3), crossed_web(TWELVE_ROWS[2], TWELVE_ROWS[5])]
        for web in webs:
            kind, one, other = two_rows(web)
            for row in self.spoilt_rows(one):
                self.assertIs(shows_rows(web, (row, other)), False, (web, row))
            for row in self.spoilt_rows(other):
                self.assertIs(shows_rows(web, (one, row)), False, (web, row))
            for thing in ([one, other], (one,), (other,), (one, other, one), (one, other, None), ((one, other),),
                          [(one, other)], one, other, one + other, (tuple(one), tuple(other)), ("rows", one, other)):
                self.assertIs(shows_rows(web, thing), False, (web, thing))

    def test_without_places_and_of_one(self):
        self.assertIs(shows_rows((0, ()), ([], [])), True)
        self.assertIs(shows_rows((1, ()), ([0], [0])), True)
        for thing in (((), ()), ([], ()), [[], []], ([],), ([], [], []), ([0], [0]), ("", ""), ([False], [False])):
            self.assertIs(shows_rows((0, ()), thing), False, thing)
        for thing in (([False], [0]), ([0], [False]), ([], []), ([0, 0], [0]), ([1], [1]), ([0], (0,)), (0, 0)):
            self.assertIs(shows_rows((1, ()), thing), False, thing)

    def test_one_list_handed_in_twice(self):
        row = [2, 0, 1]
        self.assertIs(shows_rows((3, ()), (row, row)), True)
        self.assertEqual(row, [2, 0, 1])

    def test_things_of_any_kind(self):
        webs = ((0, ()), (1, ()), (2, ()), line(2), line(4), ring(5), full(4))
        for web in webs:
            row = list(range(web[0]))
            for thing in odd_things():
                for asked in (thing, (thing, thing), (row, thing), (thing, row), (row, [thing]), ([thing], row)):
                    self.assertIs(shows_rows(web, asked), shown_by_words(web, asked), (web, asked))

    def test_deep_things(self):
        for web in ((0, ()), line(2)):
            for kind in (list, tuple):
                deep = nested(kind, 27, 0)
                for thing in (deep, (deep, deep), ([0, 1], deep), ([0, deep], [1, 0])):
                    self.assertIs(shows_rows(web, thing), False)


class MostApartTest(unittest.TestCase):
    def check(self, web):
        gaps = gaps_of(web)
        told = most_apart(web)
        self.assertIsInstance(told, list)
        sets = tied_sets(gaps)
        self.assertIn(told, sets)
        self.assertEqual(len(told), max(len(places) for places in sets), web)
        self.assertEqual(told, sorted(longest_chain(gaps, pointed(gaps)[1])), web)
        self.assertEqual(told, greatest_tied(gaps))

    def test_all_sets_of_places_of_small_webs(self):
        for web in five_webs():
            if can_be_pointed(gaps_of(web)):
                self.check(web)

    def test_by_all_chains_of_the_first_led_pointing(self):
        for web in small_webs():
            gaps = gaps_of(web)
            chains = chains_by_words(gaps, led_by_words(gaps)[0])
            most = max([len(chain) for chain in chains], default=0)
            wanted = next((sorted(chain) for chain in chains if len(chain) == most), [])
            self.assertEqual(most_apart(web), wanted, web)

    def test_twelve_places(self):
        for web in twelve_webs():
            if can_be_pointed(gaps_of(web)):
                self.check(web)
            self.check(gaps_of(web))

    def test_known_webs(self):
        self.assertEqual(most_apart((0, ())), [])
        self.assertEqual(most_apart((1, ())), [0])
        self.assertEqual(most_apart((12, ())), list(range(12)))
        self.assertEqual(most_apart(full(12)), [0])
        self.assertEqual(most_apart(star(12)), list(range(1, 12)))
        self.assertEqual(most_apart(groups(3, 4, 5)), [7, 8, 9, 10, 11])

    def test_a_barred_web_whose_gaps_are_led(self):
        for web in barred_webs():
            if can_be_pointed(gaps_of(web)):
                self.check(web)

    def refused(self, web):
        with self.assertRaises(Barred) as caught:
            most_apart(web)
        self.assertIs(type(caught.exception), Barred)
        self.assertIsInstance(caught.exception, TieError)
        return caught.exception.ring

    def test_refused_where_the_gaps_are_barred(self):
        webs = list(gaps_barred_webs()) + [ring(5), ring(7), beside(ring(5), line(3))]
        webs += [web for web in five_webs() if not can_be_pointed(gaps_of(web))]
        for web in webs:
            found = pointed(gaps_of(web))[1]
            one, other = self.refused(web), self.refused(web)
            self.assertIsInstance(one, list)
            self.assertEqual(one, found, web)
            one.clear()
            self.assertEqual(other, found)
            self.assertEqual(self.refused(web), found)


if __name__ == "__main__":
    unittest.main()
