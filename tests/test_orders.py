import unittest
from itertools import permutations

from pointedties.forcings import bundles
from pointedties.leading import pointed
from pointedties.ordercheck import shows_longest, shows_widest
from pointedties.orders import heights, longest_chain, lots_by, widest
from pointedties.pointings import by_row, turned_about
from pointedties.webs import gaps_of
from tests.samples import (
    all_webs, beside, chains_by_words, five_webs, full, groups, led_by_bundles, led_by_words, line, rising_lists, star, tied_together,
    twelve_webs,
)


def has_no_ties(web, places):
    return not any(a in places and b in places for a, b in web[1])


class OrderCase(unittest.TestCase):
    def check(self, web, pointing):
        chains = chains_by_words(web, pointing)
        tall = [max(len(chain) for chain in chains if chain[-1] == place) - 1 for place in range(web[0])]
        told = heights(web, pointing)
        self.assertIsInstance(told, list)
        self.assertEqual(told, tall, (web, pointing))
        most = max([len(chain) for chain in chains], default=0)
        # The chains rise, so the first with the most places is the first as tuples rise.
        wanted = next((chain for chain in chains if len(chain) == most), ())
        self.assertEqual(longest_chain(web, pointing), wanted, (web, pointing))
        self.assertIsInstance(longest_chain(web, pointing), tuple)
        self.check_lots(web, pointing, tall, most)
        self.check_widest(web, pointing)

    def check_lots(self, web, pointing, tall, most):
        lots = lots_by(web, pointing)
        wanted = [[place for place in range(web[0]) if tall[place] == level] for level in range(most)]
        self.assertEqual(lots, wanted, (web, pointing))
        self.assertTrue(all(isinstance(lot, list) and lot and has_no_ties(web, lot) for lot in lots))
        self.assertIs(shows_longest(web, longest_chain(web, pointing), lots), True)

    def check_widest(self, web, pointing, most=None):
        told = widest(web, pointing)
        self.assertIsInstance(told, tuple)
        lot, chains = told
        self.assertIsInstance(lot, list)
        self.assertIsInstance(chains, list)
        if most is None:
            most = max(len(places) for places in rising_lists(range(web[0])) if has_no_ties(web, places))
        self.assertEqual(len(lot), most, (web, pointing))
        self.assertEqual(lot, sorted(set(lot)))
        self.assertTrue(has_no_ties(web, lot))
        self.assertEqual(len(chains), len(lot), (web, pointing))
        self.assertEqual(sorted(place for chain in chains for place in chain), list(range(web[0])))
        for chain in chains:
            self.assertIsInstance(chain, tuple)
            self.assertTrue(chain)
            self.assertTrue(all(arrow in pointing for arrow in zip(chain, chain[1:])), (web, pointing, chain))
        self.assertIs(shows_widest(web, lot, chains), True)


class SmallTest(OrderCase):
    def test_all_led_pointings(self):
        for web in five_webs():
            for pointing in led_by_words(web):
                self.check(web, pointing)

    def test_six_places(self):
        for at, web in enumerate(all_webs(6)):
            if at % 97 == 0:
                kind, found = pointed(web)
                if kind == "led":
                    self.check(web, found)
                    self.check(web, turned_about(found))

    def test_no_places(self):
        web = (0, ())
        self.assertEqual(heights(web, ()), [])
        self.assertEqual(longest_chain(web, ()), ())
        self.assertEqual(lots_by(web, ()), [])
        self.assertEqual(widest(web, ()), ([], []))

    def test_one_place(self):
        web = (1, ())
        self.assertEqual(heights(web, ()), [0])
        self.assertEqual(longest_chain(web, ()), (0,))
        self.assertEqual(lots_by(web, ()), [[0]])
        self.assertEqual(widest(web, ()), ([0], [(0,)]))

    def test_samples(self):
        web = line(4)
        pointing = ((0, 1), (2, 1), (2, 3))
        self.assertEqual(heights(web, pointing), [0, 1, 0, 1])
        self.assertEqual(longest_chain(web, pointing), (0, 1))
        self.assertEqual(longest_chain(web, turned_about(pointing)), (1, 0))
        self.assertEqual(lots_by(web, pointing), [[0, 2], [1, 3]])
        self.assertEqual(lots_by(web, turned_about(pointing)), [[1, 3], [0, 2]])
        # A place that has arrows to none and from none stands in the lowest lot.
        web = (4, ((0, 1), (0, 2), (1, 2)))
        self.assertEqual(heights(web, web[1]), [0, 1, 2, 0])
        self.assertEqual(lots_by(web, web[1]), [[0, 3], [1], [2]])

    def test_the_first_of_several(self):
        web = groups(2, 2, 2)
        for row in permutations(range(3)):
            pointing = by_row(web, [2 * group + k for group in row for k in (0, 1)])
            self.assertEqual(longest_chain(web, pointing), tuple(2 * group for group in row))
        web = beside(full(2), full(3), full(3))
        self.assertEqual(longest_chain(web, web[1]), (2, 3, 4))
        self.assertEqual(longest_chain(web, turned_about(web[1])), (4, 3, 2))
        # The least place that begins a longest chain leads on to the least one that goes on so.
        web = (5, ((0, 3), (0, 4), (1, 2), (1, 4), (2, 4), (3, 4)))
        self.assertEqual(longest_chain(web, ((0, 3), (0, 4), (1, 2), (1, 4), (2, 4), (3, 4))), (0, 3, 4))


class TwelvePlacesTest(OrderCase):
    def pointings(self, web):
        first = pointed(web)[1]
        yield from (first, turned_about(first))
        if web == full(12):
            yield by_row(web, [7, 0, 11, 3, 5, 1, 9, 2, 10, 4, 8, 6])

    def test_against_all_chains(self):
        for web in twelve_webs():
            for pointing in self.pointings(web):
                self.check(web, pointing)

    def test_gaps_of_webs(self):
        for web in twelve_webs():
            kind, found = pointed(gaps_of(web))
            if kind == "led":
                self.check(gaps_of(web), found)

    def test_webs_put_together(self):
        for web in (beside(line(4), full(4), star(4)), tied_together(line(4), (4, ()), star(4)), star(12)):
            for pointing in self.pointings(web):
                self.check(web, pointing)

    def test_other_led_pointings(self):
        for web in twelve_webs():
            if 0 < len(bundles(web)) <= 6:
                for pointing in led_by_bundles(web)[:6]:
                    self.check(web, pointing)

    def test_greedy_joining_would_not_do(self):
        # Joined to the first place that is free, places are left over here: others must give theirs up.
        web = (6, ((0, 3), (0, 4), (1, 3), (2, 4), (2, 5)))
        self.check(web, web[1])
        self.assertEqual(len(widest(web, web[1])[0]), 3)
        web = (12, tuple((a, b) for a in range(6) for b in range(6, 12) if b - 6 <= 5 - a))
        self.check(web, web[1])
        self.assertEqual(len(widest(web, web[1])[0]), 6)


if __name__ == "__main__":
    unittest.main()
