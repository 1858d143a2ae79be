import unittest
from itertools import groupby
from random import Random

from pointedties.leading import pointed
from pointedties.orders import heights, longest_chain, lots_by
from pointedties.pointings import turned_about
from pointedties.weighcheck import shows_weighed
from pointedties.weighed import heaviest_chain, weighed_heights, weighed_lots
from tests.samples import (
    all_webs, beside, chains_by_words, full, groups, led_by_words, line, small_webs, star, twelve_webs,
)


def weights_of(many, chance):
    """Lists of weights: all 1, all 0, few, and up to 999."""
    yield from ([1] * many, [0] * many, [999] * many)
    yield [chance.choice((0, 0, 0, 1, 2)) for _ in range(many)]
    yield [chance.randrange(4) for _ in range(many)]
    yield [chance.randrange(30) for _ in range(many)]


def great_weights(many, chance):
    yield [chance.randrange(1000) for _ in range(many)]
    yield [chance.choice((0, 1, 998, 999)) for _ in range(many)]


class WeighedCase(unittest.TestCase):
    def check(self, web, pointing, weights):
        chains = chains_by_words(web, pointing)
        weight_of = {chain: sum(weights[place] for place in chain) for chain in chains}
        tall = [max(weight_of[chain] for chain in chains if chain[-1] == place) for place in range(web[0])]
        told = weighed_heights(web, pointing, weights)
        self.assertIsInstance(told, list)
        self.assertEqual(told, tall, (web, pointing, weights))
        most = max(weight_of.values(), default=0)
        # The chains rise, so the first of the greatest weight is the first as tuples rise.
        wanted = next((chain for chain in chains if weight_of[chain] == most), ())
        chain = heaviest_chain(web, pointing, weights)
        self.assertIsInstance(chain, tuple)
        self.assertEqual(chain, wanted, (web, pointing, weights))
        self.check_lots(web, pointing, weights, tall)
        self.assertIs(shows_weighed(web, weights, chain, weighed_lots(web, pointing, weights)), True)

    def check_lots(self, web, pointing, weights, tall):
        levels = range(max(tall, default=0))
        by_level = [
            [place for place in range(web[0]) if tall[place] > level and not tall[place] - weights[place] > level]
            for level in levels
        ]
        wanted = [(lot, len(list(same))) for lot, same in groupby(by_level)]
        told = weighed_lots(web, pointing, weights)
        self.assertIsInstance(told, list)
        self.assertEqual(told, wanted, (web, pointing, weights))
        self.assertTrue(all(isinstance(pair, tuple) and isinstance(pair[0], list) for pair in told))
        self.assertEqual(len({id(lot) for lot, times in told}), len(told))
        self.assertEqual(sum(times for lot, times in told), max(tall, default=0))
        for place in range(web[0]):
            self.assertEqual(sum(times for lot, times in told if place in lot), weights[place])


class SmallTest(WeighedCase):
    def test_all_led_pointings(self):
        chance = Random(19)
        for web in small_webs():
            for pointing in led_by_words(web):
                for weights in weights_of(web[0], chance):
                    self.check(web, pointing, weights)

    def test_great_weights(self):
        chance = Random(20)
        for web in small_webs():
            for pointing in led_by_words(web)[:4]:
                for weights in great_weights(web[0], chance):
                    self.check(web, pointing, weights)

    def test_five_places(self):
        chance = Random(21)
        for web in list(all_webs(5))[::7]:
            for pointing in led_by_words(web)[:6]:
                for weights in list(weights_of(5, chance))[3:]:
                    self.check(web, pointing, weights)

    def test_no_places(self):
        self.assertEqual(weighed_heights((0, ()), (), []), [])
        self.assertEqual(heaviest_chain((0, ()), (), []), ())
        self.assertEqual(weighed_lots((0, ()), (), []), [])

    def test_one_place(self):
        for weight in (0, 1, 999):
            self.assertEqual(weighed_heights((1, ()), (), [weight]), [weight])
            self.assertEqual(heaviest_chain((1, ()), (), [weight]), (0,))
            self.assertEqual(weighed_lots((1, ()), (), [weight]), [([0], weight)] if weight else [])

    def test_samples(self):
        web, pointing = line(4), ((0, 1), (2, 1), (2, 3))
        self.assertEqual(weighed_heights(web, pointing, [3, 1, 2, 5]), [3, 4, 2, 7])
        self.assertEqual(heaviest_chain(web, pointing, [3, 1, 2, 5]), (2, 3))
        self.assertEqual(weighed_lots(web, pointing, [3, 1, 2, 5]), [([0, 2], 2), ([0, 3], 1), ([1, 3], 1), ([3], 3)])
        # The first of two as heavy ones; a chain has one place at least, even where all weigh nothing.
        self.assertEqual(heaviest_chain(web, pointing, [3, 1, 2, 2]), (0, 1))
        self.assertEqual(heaviest_chain(web, turned_about(pointing), [3, 1, 2, 2]), (1, 0))
        self.assertEqual(heaviest_chain(web, pointing, [0, 0, 0, 0]), (0,))
        self.assertEqual(weighed_lots(web, pointing, [0, 0, 0, 0]), [])

    def test_places_without_weight(self):
        web = full(3)
        # (0, 1, 2) stands ahead of (0, 2), but (0,) ahead of (0, 1), and (0, 1) ahead of (1,).
        self.assertEqual(heaviest_chain(web, web[1], [5, 0, 5]), (0, 1, 2))
        self.assertEqual(heaviest_chain(web, web[1], [5, 0, 0]), (0,))
        self.assertEqual(heaviest_chain(web, web[1], [0, 5, 0]), (0, 1))
        self.assertEqual(heaviest_chain(web, turned_about(web[1]), [0, 5, 0]), (1,))
        self.assertEqual(heaviest_chain(web, turned_about(web[1]), [5, 0, 5]), (2, 0))
        self.assertEqual(weighed_heights(web, web[1], [0, 5, 0]), [0, 5, 5])
        self.assertEqual(weighed_lots(web, web[1], [5, 0, 2]), [([0], 5), ([2], 2)])

    def test_the_same_lot_on_many_levels(self):
        web = beside(full(2), full(2))
        self.assertEqual(weighed_lots(web, web[1], [400, 500, 400, 500]), [([0, 2], 400), ([1, 3], 500)])
        self.assertEqual(weighed_lots((12, ()), (), [999] * 12), [(list(range(12)), 999)])


class OnesTest(WeighedCase):
    def test_all_ones_are_the_order_without_weights(self):
        for web in list(small_webs()) + list(twelve_webs()):
            kind, found = pointed(web)
            if kind == "led":
                ones = [1] * web[0]
                self.assertEqual(weighed_heights(web, found, ones), [tall + 1 for tall in heights(web, found)])
                self.assertEqual(heaviest_chain(web, found, ones), longest_chain(web, found))
                self.assertEqual(weighed_lots(web, found, ones), [(lot, 1) for lot in lots_by(web, found)])


class TwelvePlacesTest(WeighedCase):
    def test_against_all_chains(self):
        chance = Random(22)
        for web in list(twelve_webs()) + [star(12), groups(6, 6)]:
            first = pointed(web)[1]
            for pointing in (first, turned_about(first)):
                for weights in list(weights_of(12, chance)) + list(great_weights(12, chance)):
                    self.check(web, pointing, weights)

    def test_greatest_weights(self):
        web = full(12)
        self.assertEqual(weighed_heights(web, web[1], [999] * 12), [999 * (place + 1) for place in range(12)])
        self.assertEqual(weighed_lots(web, web[1], [999] * 12), [([place], 999) for place in range(12)])


if __name__ == "__main__":
    unittest.main()
