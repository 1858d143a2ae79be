import unittest
from itertools import combinations, permutations, product
from random import Random

from pointedties.leading import pointed
from pointedties.pointings import turned_about
from pointedties.weighcheck import shows_weighed
from pointedties.weighed import heaviest_chain, weighed_lots
from pointedties.webs import tied
from tests.samples import (
    all_webs, beside, full, groups, is_chain_by_words, is_lot_by_words, is_number_by_words, line, odd_things, ring,
    spoilt_places, star, tied_together, twelve_webs,
)

WEBS = (
    (0, ()), (1, ()), (2, ()), line(2), line(3), line(4), ring(4), full(4), (4, ()), groups(2, 3), star(5),
    beside(full(3), line(3)), tied_together(line(4), (2, ())), groups(1, 2, 2),
)


def weighed_by_words(web, weights, chain, lots):
    if not is_chain_by_words(web, chain) or not isinstance(lots, list):
        return False
    if not all(isinstance(part, tuple) and len(part) == 2 for part in lots):
        return False
    if not all(is_lot_by_words(web, lot) and lot and is_number_by_words(times) and times > 0 for lot, times in lots):
        return False
    for place in range(web[0]):
        if sum(times for lot, times in lots for other in lot if other == place) < weights[place]:
            return False
    return sum(times for lot, times in lots) == sum(weights[place] for place in chain)


def spoilt_lots(web, lots):
    """A list of pairs (lot, times) spoilt in one thing."""
    yield from (tuple(lots), [lots], str(lots), None, True, 0, len(lots), (), [], "", lots + lots)
    extras = ([], (), None, 0, "", True, ([], 1), ([0], 0), ([0], 1), ((0,), 1), [[0], 1], ([0], 1, 1), ([0],))
    yield from (lots + [extra] for extra in extras)
    yield from ([extra] + lots for extra in extras)
    for at, (lot, times) in enumerate(lots):
        before, after = lots[:at], lots[at + 1:]
        yield from (before + after, before + [(lot, times), (lot, times)] + after, before + [[lot, times]] + after)
        parts = ((lot,), (lot, times, times), (times, lot), lot, times, (), None)
        yield from (before + [part] + after for part in parts)
        yield from (before + [(spoilt, times)] + after for spoilt in spoilt_places(web, lot))
        others = (0, -times, times - 1, times + 1, True, False, None, str(times), [times], (times,), 10 ** 30, "")
        yield from (before + [(lot, other)] + after for other in others)


class CheckCase(unittest.TestCase):
    def check(self, web, weights, chain, lots):
        wanted = weighed_by_words(web, weights, chain, lots)
        self.assertIs(shows_weighed(web, weights, chain, lots), wanted, (web, weights, chain, lots))
        return wanted

    def told(self, webs):
        """Webs with weights, and the chain and the lots that are told of them."""
        chance = Random(31)
        for web in webs:
            kind, found = pointed(web)
            self.assertEqual(kind, "led")
            for pointing in (found, turned_about(found)):
                many = web[0]
                few = [chance.randrange(4) for _ in range(many)]
                for weights in ([1] * many, [0] * many, few, [chance.randrange(1000) for _ in range(many)]):
                    chain, lots = heaviest_chain(web, pointing, weights), weighed_lots(web, pointing, weights)
                    yield web, weights, chain, lots


class ToldTest(CheckCase):
    def test_what_is_told(self):
        for web, weights, chain, lots in self.told(list(twelve_webs()) + list(WEBS)):
            self.assertIs(shows_weighed(web, weights, chain, lots), True)

    def test_in_another_order(self):
        for web, weights, chain, lots in self.told(WEBS):
            for order in permutations(chain):
                self.assertIs(shows_weighed(web, weights, order, lots), True)
            for order in list(permutations(lots))[:60]:
                self.assertIs(shows_weighed(web, weights, chain, list(order)), True)

    def test_a_lot_told_in_two(self):
        parted = 0
        for web, weights, chain, lots in self.told(WEBS):
            for at, (lot, times) in enumerate(lots):
                for cut in sorted({1, times // 2, times - 1} - {0, times}):
                    parts = [(lot, cut), (list(lot), times - cut)]
                    self.assertIs(shows_weighed(web, weights, chain, lots[:at] + parts + lots[at + 1:]), True)
                    self.assertIs(shows_weighed(web, weights, chain, parts[:1] + lots[:at] + lots[at + 1:]), False)
                    parted += 1
        self.assertGreater(parted, 0)

    def test_places_put_to_a_lot(self):
        put = 0
        for web, weights, chain, lots in self.told(WEBS):
            for at, (lot, times) in enumerate(lots):
                for place in range(web[0]):
                    if place not in lot:
                        more = lots[:at] + [(sorted(lot + [place]), times)] + lots[at + 1:]
                        fits = not any(tied(web, place, other) for other in lot)
                        self.assertIs(shows_weighed(web, weights, chain, more), fits)
                        put += fits
        self.assertGreater(put, 0)

    def test_no_weights(self):
        for web in WEBS:
            weights = [0] * web[0]
            self.assertIs(shows_weighed(web, weights, (), []), True)
            for place in range(web[0]):
                self.assertIs(shows_weighed(web, weights, (place,), []), True)
                self.assertIs(shows_weighed(web, weights, (place,), [([place], 1)]), False)
                self.assertIs(shows_weighed(web, weights, (place, place), []), False)

    def test_no_places(self):
        web = (0, ())
        self.assertIs(shows_weighed(web, [], (), []), True)
        for chain, lots in ((), ()), ([], []), ((), [([], 1)]), ((), [[]]), ((0,), []), ((), None), (None, []):
            self.assertIs(shows_weighed(web, [], chain, lots), False)

    def test_samples(self):
        web, weights = line(4), [3, 1, 2, 5]
        lots = [([0, 2], 2), ([0, 3], 1), ([1, 3], 1), ([3], 3)]
        self.assertIs(shows_weighed(web, weights, (2, 3), lots), True)
        self.assertIs(shows_weighed(web, weights, (3, 2), lots), True)
        self.assertIs(shows_weighed(web, weights, (2, 3), [([0, 2], 2), ([0, 3], 3), ([1, 3], 2)]), True)
        self.assertIs(shows_weighed(web, weights, (0, 1), lots), False)
        # The weights are right together, but 0 and 3 are not tied.
        self.assertIs(shows_weighed(web, [2, 1, 2, 5], (0, 3), lots), False)
        self.assertIs(shows_weighed(web, weights, (2, 3), [([0, 2], 2), ([0, 3], 4), ([3], 1)]), False)
        self.assertIs(shows_weighed(web, weights, (2, 3), [([0, 2], 2), ([1, 3], 5)]), False)
        self.assertIs(shows_weighed(web, weights, (2, 3), [([2, 0], 2), ([0, 3], 1), ([1, 3], 1), ([3], 3)]), False)
        self.assertIs(shows_weighed(web, weights, (2, 3), lots + [([1], 1)]), False)
        self.assertIs(shows_weighed(web, weights, (2, 3), lots + [([], 0)]), False)
        # Each two of the chain are tied, not neighbours alone.
        self.assertIs(shows_weighed(line(3), [1, 1, 1], (0, 1, 2), [([0], 1), ([1], 1), ([2], 1)]), False)

    def test_oftener_than_the_weight(self):
        web = (2, ())
        self.assertIs(shows_weighed(web, [2, 1], (0,), [([0, 1], 2)]), True)
        self.assertIs(shows_weighed(web, [2, 3], (0,), [([0, 1], 2)]), False)
        self.assertIs(shows_weighed(web, [2, 3], (1,), [([0, 1], 3)]), True)
        self.assertIs(shows_weighed(web, [2, 3], (1,), [([0, 1], 1), ([0], 1), ([1], 1)]), False)

    def test_webs_without_a_led_pointing(self):
        web = beside(ring(5), full(1))
        lots = [([0, 2, 5], 1), ([1, 3, 5], 1), ([4, 5], 1)]
        self.assertIs(shows_weighed(web, [1, 1, 1, 1, 1, 3], (5,), lots), True)
        self.assertIs(shows_weighed(web, [1, 1, 1, 1, 1, 2], (0, 1), lots), False)
        self.assertIs(shows_weighed(ring(5), [1] * 5, (0, 1), [([0, 2], 1), ([1, 3], 1)]), False)


class SmallTest(CheckCase):
    def test_all_chains_and_lots_of_few_places(self):
        found = 0
        for many in range(4):
            chains = [row for size in range(min(many, 2) + 2) for row in product(range(many + 1), repeat=size)]
            sets = [list(row) for size in range(many + 1) for row in combinations(range(many), size)] + [[many]]
            pairs = [(one, times) for one in sets for times in (0, 1, 2)]
            lists = [list(row) for size in range(3) for row in product(pairs, repeat=size)]
            for web in list(all_webs(many))[::2]:
                for weights in ([1] * many, [0] * many, [2, 1, 0][:many]):
                    for chain in chains[::2]:
                        for lots in lists[::3]:
                            found += self.check(web, weights, chain, lots)
        self.assertGreater(found, 0)


class SpoiltTest(CheckCase):
    def test_spoilt_in_one_thing(self):
        spoilt = 0
        for web, weights, chain, lots in self.told(WEBS):
            for thing in spoilt_places(web, chain):
                spoilt += not self.check(web, weights, thing, lots)
            for thing in spoilt_lots(web, lots):
                spoilt += not self.check(web, weights, chain, thing)
        self.assertGreater(spoilt, 0)

    def test_twelve_places_spoilt(self):
        for web, weights, chain, lots in self.told(twelve_webs()):
            for thing in list(spoilt_places(web, chain))[::7] + [chain[1:]]:
                self.check(web, weights, thing, lots)
            for thing in list(spoilt_lots(web, lots))[::29]:
                self.check(web, weights, chain, thing)

    def test_kinds(self):
        web, weights = line(2), [1, 1]
        good = [([0], 1), ([1], 1)]
        self.assertIs(shows_weighed(web, weights, (0, 1), good), True)
        for chain in ([0, 1], (0, True), (False, 1), (0, "1"), (0, None), (0, 1, 1), (0, 0), (0,), (0, 2), (0, -1)):
            self.assertIs(shows_weighed(web, weights, chain, good), False, chain)
        parts = (
            ([True], 1), ([1], True), ((1,), 1), [[1], 1], ([1], "1"), ([1], None), ([1], 0), ([1], -1), ([1], 2),
            (["1"], 1), ([None], 1), ([2], 1), ([-1], 1), ([1, 1], 1), ([0, 1], 1), ([], 1), (1, 1), ([1], [1]),
            ([1],), ([1], 1, 1), (1, [1]), None, True, 1, "", (), [],
        )
        for part in parts:
            self.assertIs(shows_weighed(web, weights, (0, 1), [([0], 1), part]), False, part)
        self.assertIs(shows_weighed(web, weights, (0, 1), tuple(good)), False)
        # Nought and below would balance a time that is too many.
        self.assertIs(shows_weighed(web, weights, (0, 1), [([0], 2), ([1], 1), ([0], -1)]), False)
        self.assertIs(shows_weighed(web, weights, (0, 1), good + [([0], 0)]), False)

    def test_things_of_any_kind(self):
        for web, weights in (((0, ()), []), ((1, ()), [1]), ((1, ()), [0]), (line(2), [1, 2]), ((2, ()), [2, 2])):
            chain, lots = heaviest_chain(web, web[1], weights), weighed_lots(web, web[1], weights)
            for thing in odd_things():
                wraps = (thing, [thing], (thing,), [[thing]], [(thing,)], [(thing, 1)], [([thing], 1)], [([0], thing)])
                for one in wraps:
                    self.check(web, weights, one, lots)
                    self.check(web, weights, chain, one)
                    self.check(web, weights, one, one)
                self.check(web, weights, chain, lots + [thing])


if __name__ == "__main__":
    unittest.main()
