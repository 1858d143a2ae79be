import unittest
from itertools import combinations, product

from pointedties.leading import can_be_pointed, pointed
from pointedties.pointings import is_led, is_pointing
from pointedties.stretches import apart_pointing, apart_web, stretches_for
from pointedties.webs import is_web, renumbered, tied
from tests.samples import (
    all_webs, barred_webs, beside, five_webs, full, groups, line, ring, star, tied_together, twelve_webs,
)

TWELVE = [
    (0, 4), (-3, -3), (5, 9), (-999, -10), (4, 5), (10, 999), (0, 4), (9, 10), (-10, 0), (7, 7), (-999, 999), (1, 2),
]


def rows_of_stretches():
    """Lists of none to twelve stretches."""
    yield from ([], [(0, 0)], [(-999, 999)], [(0, 0)] * 12, [(-5, 7)] * 3, [(0, 1), (1, 2)], [(1, 2), (0, 1)])
    yield from ([(0, 1), (2, 3)], [(2, 3), (0, 1)], [(-2, -1), (-1, -1), (0, 0)], [(999, 999), (-999, -999)])
    yield [(k, k) for k in range(12)]
    yield [(-k, -k) for k in range(12)]
    yield [(k, k + 1) for k in range(12)]
    yield [(2 * k, 2 * k + 1) for k in range(12)]
    yield [(k, 2 * k) for k in range(12)]
    yield [(-k, k) for k in range(12)]
    for many in range(13):
        yield TWELVE[:many]
        yield [(7 * k % 11 - 5, 7 * k % 11 - 5 + 5 * k % 7) for k in range(many)]


def all_stretches(least, greatest):
    return [(begin, end) for begin in range(least, greatest + 1) for end in range(begin, greatest + 1)]


def web_by_words(stretches):
    pairs = combinations(range(len(stretches)), 2)
    ties = [
        (a, b) for a, b in pairs
        if stretches[a][1] < stretches[b][0] or stretches[b][1] < stretches[a][0]
    ]
    return (len(stretches), tuple(ties))


def four_by_words(web):
    """The least four places with two ties and no others; None if there are none."""
    for a, b, c, d in product(range(web[0]), repeat=4):
        if len({a, b, c, d}) == 4 and a < b and c < d and a < c:
            ties = {tie for tie in combinations(sorted((a, b, c, d)), 2) if tied(web, *tie)}
            if ties == {(a, b), (c, d)}:
                return (a, b, c, d)
    return None


def stretches_by_words(web, pointing):
    places = range(web[0])
    behind = [frozenset(a for a, b in pointing if b == place) for place in places]
    begins = [len({other for other in behind if len(other) < len(behind[place])}) for place in places]
    told = []
    for place in places:
        later = [begins[b] for a, b in pointing if a == place]
        told.append((begins[place], min(later) - 1 if later else max(begins)))
    return told


class ApartTest(unittest.TestCase):
    def check(self, stretches):
        web = apart_web(list(stretches))
        self.assertEqual(web, web_by_words(stretches), stretches)
        self.assertIs(is_web(web), True)
        pointing = apart_pointing(list(stretches))
        self.assertIs(is_pointing(web, pointing), True)
        self.assertIs(is_led(web, pointing), True)
        self.assertTrue(all(stretches[a][1] < stretches[b][0] for a, b in pointing), stretches)
        return web

    def test_lists_of_stretches(self):
        for stretches in rows_of_stretches():
            self.check(stretches)

    def test_each_two_and_three(self):
        for size in (2, 3):
            for stretches in product(all_stretches(-1, 2), repeat=size):
                self.check(stretches)

    def test_no_stretches_and_one(self):
        self.assertEqual((apart_web([]), apart_pointing([])), ((0, ()), ()))
        self.assertEqual((apart_web([(3, 3)]), apart_pointing([(3, 3)])), ((1, ()), ()))

    def test_alike_ones(self):
        for stretch in ((0, 0), (-4, 9), (999, 999)):
            self.assertEqual(apart_web([stretch] * 12), (12, ()))
            self.assertEqual(apart_pointing([stretch] * 12), ())

    def test_one_that_ends_where_another_begins(self):
        for one, other in (((0, 1), (1, 2)), ((-3, -2), (-2, -2)), ((5, 5), (5, 6)), ((-999, 0), (0, 999))):
            self.assertEqual(apart_web([one, other]), (2, ()))
            self.assertEqual(apart_web([other, one]), (2, ()))
            self.assertEqual(apart_pointing([one, other]), ())

    def test_one_ahead(self):
        for one, other in (((0, 0), (1, 1)), ((-2, -1), (0, 0)), ((-999, -999), (999, 999)), ((-9, 3), (4, 4))):
            self.assertEqual(apart_web([one, other]), (2, ((0, 1),)))
            self.assertEqual(apart_pointing([one, other]), ((0, 1),))
            self.assertEqual(apart_web([other, one]), (2, ((0, 1),)))
            self.assertEqual(apart_pointing([other, one]), ((1, 0),))

    def test_samples(self):
        self.assertEqual(apart_web([(2, 3), (0, 1), (1, 2)]), (3, ((0, 1),)))
        self.assertEqual(apart_pointing([(2, 3), (0, 1), (1, 2)]), ((1, 0),))
        self.assertEqual(apart_web([(k, k) for k in range(12)]), full(12))
        self.assertEqual(apart_pointing([(-k, -k) for k in range(12)]), tuple((b, a) for a, b in full(12)[1]))


class StretchesForTest(unittest.TestCase):
    def check(self, web):
        kind, found = pointed(web)
        told = stretches_for(web)
        self.assertIsInstance(told, tuple)
        four = four_by_words(web)
        if kind == "barred":
            self.assertEqual(told, ("barred", found), web)
            self.assertIsInstance(told[1], list)
        elif four is not None:
            self.assertEqual(told, ("four", four), web)
            self.assertIsInstance(told[1], tuple)
        else:
            self.assertEqual(told, ("stretches", stretches_by_words(web, found)), web)
            self.check_stretches(web, told[1])
        return told[0]

    def check_stretches(self, web, stretches):
        self.assertIsInstance(stretches, list)
        for begin, end in stretches:
            self.assertLessEqual(begin, end)
        self.assertTrue(all(isinstance(stretch, tuple) for stretch in stretches))
        self.assertEqual(apart_web(stretches), web)
        self.assertEqual(apart_pointing(stretches), pointed(web)[1])

    def test_small_webs(self):
        kinds = {self.check(web) for web in five_webs()}
        self.assertEqual(kinds, {"stretches", "barred", "four"})

    def test_six_places(self):
        for at, web in enumerate(all_webs(6)):
            if at % 31 == 0:
                self.check(web)

    def test_webs_of_stretches(self):
        for stretches in rows_of_stretches():
            self.assertEqual(self.check(apart_web(stretches)), "stretches")

    def test_webs_of_three_and_four_stretches(self):
        for stretches in product(all_stretches(0, 2), repeat=3):
            self.assertEqual(self.check(apart_web(list(stretches))), "stretches")
        for at, stretches in enumerate(product(all_stretches(0, 3), repeat=4)):
            if at % 19 == 0:
                self.assertEqual(self.check(apart_web(list(stretches))), "stretches")

    def test_barred(self):
        for web in barred_webs():
            self.assertEqual(self.check(web), "barred")
        # Barred goes ahead of the four places, which these have, too.
        for web in (ring(7), beside(ring(5), line(2)), beside(line(4), ring(5))):
            self.assertIsNotNone(four_by_words(web))
            self.assertEqual(stretches_for(web), pointed(web))

    def test_four_places(self):
        self.assertEqual(stretches_for(beside(line(2), line(2))), ("four", (0, 1, 2, 3)))
        self.assertEqual(stretches_for((4, ((0, 2), (1, 3)))), ("four", (0, 2, 1, 3)))
        self.assertEqual(stretches_for((4, ((0, 3), (1, 2)))), ("four", (0, 3, 1, 2)))
        self.assertEqual(stretches_for(line(5)), ("four", (0, 1, 3, 4)))
        self.assertEqual(stretches_for(ring(6)), ("four", (0, 1, 3, 4)))
        self.assertEqual(stretches_for(line(12)), ("four", (0, 1, 3, 4)))
        for many in (3, 4):
            self.assertEqual(stretches_for(line(many))[0], "stretches")
        web = beside((8, ()), line(2), line(2))
        self.assertEqual(stretches_for(web), ("four", (8, 9, 10, 11)))
        self.assertEqual(stretches_for(renumbered(web, list(range(11, -1, -1)))), ("four", (0, 1, 2, 3)))

    def test_without_ties_and_with_all(self):
        for many in range(13):
            self.assertEqual(stretches_for((many, ())), ("stretches", [(0, 0)] * many))
            self.assertEqual(stretches_for(full(many)), ("stretches", [(k, k) for k in range(many)]))

    def test_samples(self):
        self.assertEqual(stretches_for((0, ())), ("stretches", []))
        self.assertEqual(stretches_for((1, ())), ("stretches", [(0, 0)]))
        self.assertEqual(stretches_for(line(3)), ("stretches", [(0, 0), (1, 1), (0, 0)]))
        self.assertEqual(stretches_for(line(4)), ("stretches", [(0, 1), (2, 2), (0, 0), (1, 2)]))
        self.assertEqual(stretches_for((3, ((0, 1),))), ("stretches", [(0, 0), (1, 1), (0, 1)]))
        self.assertEqual(stretches_for(groups(1, 2, 1)), ("stretches", [(0, 0), (1, 1), (1, 1), (2, 2)]))

    def test_twelve_places(self):
        webs = list(twelve_webs())
        webs += [star(12), tied_together(*[(3, ())] * 4), beside(full(11), (1, ())), apart_web(TWELVE)]
        kinds = {self.check(web) for web in webs}
        self.assertEqual(kinds, {"stretches", "four"})
        for numbers in ([7, 0, 11, 3, 5, 1, 9, 2, 10, 4, 8, 6], list(range(11, -1, -1))):
            for web in webs:
                self.check(renumbered(web, numbers))

    def test_stretches_just_where_led_and_without_four(self):
        for web in five_webs():
            wanted = can_be_pointed(web) and four_by_words(web) is None
            self.assertIs(stretches_for(web)[0] == "stretches", wanted)


if __name__ == "__main__":
    unittest.main()
