import unittest
from itertools import combinations, permutations, product

from pointedties.leading import pointed
from pointedties.ordercheck import shows_longest, shows_widest
from pointedties.orders import longest_chain, lots_by, widest
from pointedties.pointings import turned_about
from tests.samples import (
    all_webs, beside, five_webs, full, groups, is_chain_by_words, is_lot_by_words, line, odd_things, ring, small_webs,
    spoilt_places, star, tied_together, twelve_webs,
)

WEBS = (
    (0, ()), (1, ()), (2, ()), line(2), line(3), line(4), ring(4), full(4), (4, ()), groups(2, 3), star(5),
    beside(full(3), line(3)), tied_together(line(4), (2, ())), groups(1, 2, 2),
)


def parts_by_words(web, things, is_part, many):
    """Whether things is a list of so many parts, none empty, with each place in just one."""
    if not isinstance(things, list) or len(things) != many or not all(is_part(web, part) and part for part in things):
        return False
    return all(sum(part.count(place) for part in things) == 1 for place in range(web[0]))


def longest_by_words(web, chain, lots):
    return is_chain_by_words(web, chain) and parts_by_words(web, lots, is_lot_by_words, len(chain))


def widest_by_words(web, lot, chains):
    return is_lot_by_words(web, lot) and parts_by_words(web, chains, is_chain_by_words, len(lot))


def spoilt_parts(web, parts):
    """A list of lots or chains spoilt in one thing."""
    yield from (tuple(parts), [parts], str(parts), None, True, 0, len(parts), (), [], "", parts + parts)
    yield from (parts + [other] for other in ([], (), None, 0, "", [0], (0,), True))
    yield from ([other] + parts for other in ([], (), None, 0, "", [0], (0,), True))
    for at, part in enumerate(parts):
        before, after = parts[:at], parts[at + 1:]
        yield from (before + after, before + [part, part] + after, parts + [part], before + [part[:0]] + after)
        yield from (before + [spoilt] + after for spoilt in spoilt_places(web, part))
        for cut in range(1, len(part)):
            yield before + [part[:cut], part[cut:]] + after
    for one, other in combinations(range(len(parts)), 2):
        rest = [part for at, part in enumerate(parts) if at not in (one, other)]
        yield rest + [parts[one] + parts[other]]
        yield from moved(rest, parts[one], parts[other])
        yield from moved(rest, parts[other], parts[one])


def moved(rest, one, other):
    """A place of one put over into other."""
    for at, place in enumerate(one):
        yield rest + [one[:at] + one[at + 1:], type(other)(sorted(list(other) + [place]))]


class CheckCase(unittest.TestCase):
    def check_longest(self, web, chain, lots):
        wanted = longest_by_words(web, chain, lots)
        self.assertIs(shows_longest(web, chain, lots), wanted, (web, chain, lots))
        return wanted

    def check_widest(self, web, lot, chains):
        wanted = widest_by_words(web, lot, chains)
        self.assertIs(shows_widest(web, lot, chains), wanted, (web, lot, chains))
        return wanted

    def pointings(self, webs):
        for web in webs:
            kind, found = pointed(web)
            if kind == "led":
                yield from ((web, found), (web, turned_about(found)))


class ToldTest(CheckCase):
    def test_what_is_told(self):
        for web, pointing in self.pointings(list(five_webs()) + list(twelve_webs()) + list(WEBS)):
            self.assertIs(shows_longest(web, longest_chain(web, pointing), lots_by(web, pointing)), True)
            lot, chains = widest(web, pointing)
            self.assertIs(shows_widest(web, lot, chains), True)

    def test_in_another_order(self):
        for web, pointing in self.pointings(WEBS):
            chain, lots = longest_chain(web, pointing), lots_by(web, pointing)
            for order in permutations(chain):
                self.assertIs(shows_longest(web, order, lots), True)
            for order in permutations(lots):
                self.assertIs(shows_longest(web, chain, list(order)), True)
            lot, chains = widest(web, pointing)
            for order in list(permutations(chains))[:30]:
                self.assertIs(shows_widest(web, lot, list(order)), True)
            for at, one in enumerate(chains):
                for order in permutations(one):
                    self.assertIs(shows_widest(web, lot, chains[:at] + [order] + chains[at + 1:]), True)

    def test_no_places(self):
        web = (0, ())
        self.assertIs(shows_longest(web, (), []), True)
        self.assertIs(shows_widest(web, [], []), True)
        for chain, lots in ((), ()), ([], []), ((), [[]]), ((), [()]), ((0,), [[0]]), ((), None), (None, []), ([], ()):
            self.assertIs(shows_longest(web, chain, lots), False)
        for lot, chains in ((), ()), ([], ()), ([], [[]]), ([], [()]), ([0], [(0,)]), ([], None), (None, []), ((), []):
            self.assertIs(shows_widest(web, lot, chains), False)
        for web in small_webs():
            if web[0]:
                self.assertIs(shows_longest(web, (), []), False)
                self.assertIs(shows_widest(web, [], []), False)

    def test_samples(self):
        web = line(4)
        self.assertIs(shows_longest(web, (2, 1), [[1, 3], [0, 2]]), True)
        self.assertIs(shows_longest(web, (0, 2), [[1, 3], [0, 2]]), False)
        self.assertIs(shows_longest(web, (0,), [[0, 1, 2, 3]]), False)
        self.assertIs(shows_longest(web, (0, 1), [[0, 1], [2, 3]]), False)
        self.assertIs(shows_longest(web, (0, 1), [[0, 3], [1]]), False)
        self.assertIs(shows_longest(web, (0, 1), [[2, 0], [1, 3]]), False)
        self.assertIs(shows_widest(web, [0, 3], [(1, 0), (2, 3)]), True)
        self.assertIs(shows_widest(web, [0, 3], [(0, 3), (1, 2)]), False)
        self.assertIs(shows_widest(web, [3, 0], [(0, 1), (2, 3)]), False)
        self.assertIs(shows_widest(web, [0, 1], [(0, 1), (2, 3)]), False)
        # Each two of a chain are tied, not neighbours alone.
        self.assertIs(shows_widest(line(3), [0], [(0, 1, 2)]), False)
        self.assertIs(shows_longest(line(3), (0, 1, 2), [[0], [1], [2]]), False)

    def test_webs_without_a_led_pointing(self):
        # A ring of five has at most two tied, but needs three lots; with three more tied places beside, both are three.
        web = beside(ring(5), full(3))
        self.assertIs(shows_longest(web, (5, 6, 7), [[0, 2, 5], [1, 3, 6], [4, 7]]), True)
        self.assertIs(shows_longest(ring(5), (0, 1), [[0, 2], [1, 3], [4]]), False)
        self.assertIs(shows_widest(ring(5), [0, 2], [(0, 1), (2, 3), (4,)]), False)


class SmallTest(CheckCase):
    def test_all_chains_and_lots_of_few_places(self):
        found = 0
        for many in range(4):
            numbers = range(-1, many + 1)
            tuples = [row for size in range(4) for row in product(numbers, repeat=size)]
            sets = [list(row) for size in range(1, many + 1) for row in combinations(range(many), size)] + [[], [many]]
            lists = [list(row) for size in range(min(many, 2) + 1) for row in product(sets, repeat=size)]
            for web in all_webs(many):
                for chain in tuples:
                    for lots in lists:
                        found += self.check_longest(web, chain, lots)
        self.assertGreater(found, 0)

    def test_all_lots_and_chains_of_few_places(self):
        found = 0
        for many in range(4):
            lists = [list(row) for size in range(3) for row in product(range(-1, many + 1), repeat=size)]
            chains = [row for size in range(many + 1) for row in permutations(range(many), size)] + [(many,)]
            parts = [list(row) for size in range(min(many, 2) + 1) for row in product(chains, repeat=size)]
            for web in all_webs(many):
                for lot in lists:
                    for some in parts:
                        found += self.check_widest(web, lot, some)
        self.assertGreater(found, 0)


class SpoiltTest(CheckCase):
    def test_longest_spoilt_in_one_thing(self):
        for web, pointing in self.pointings(WEBS):
            chain, lots = longest_chain(web, pointing), lots_by(web, pointing)
            for thing in spoilt_places(web, chain):
                self.check_longest(web, thing, lots)
            for thing in spoilt_parts(web, lots):
                self.check_longest(web, chain, thing)

    def test_widest_spoilt_in_one_thing(self):
        for web, pointing in self.pointings(WEBS):
            lot, chains = widest(web, pointing)
            for thing in spoilt_places(web, lot):
                self.check_widest(web, thing, chains)
            for thing in spoilt_parts(web, chains):
                self.check_widest(web, lot, thing)

    def test_twelve_places_spoilt(self):
        for web, pointing in self.pointings(twelve_webs()):
            chain, lots = longest_chain(web, pointing), lots_by(web, pointing)
            for thing in list(spoilt_parts(web, lots))[::7]:
                self.check_longest(web, chain, thing)
            lot, chains = widest(web, pointing)
            for thing in list(spoilt_parts(web, chains))[::7]:
                self.check_widest(web, lot, thing)

    def test_true_for_one(self):
        web = line(2)
        self.assertIs(shows_longest(web, (0, 1), [[0], [1]]), True)
        self.assertIs(shows_widest(web, [1], [(0, 1)]), True)
        for chain, lots in (((0, True), [[0], [1]]), ((False, 1), [[0], [1]]), ((0, 1), [[0], [True]])):
            self.assertIs(shows_longest(web, chain, lots), False)
        for lot, chains in (([True], [(0, 1)]), ([1], [(0, True)]), ([False], [(0, 1)]), ([0], [(False, 1)])):
            self.assertIs(shows_widest(web, lot, chains), False)

    def test_exchanged(self):
        for web, pointing in self.pointings(WEBS):
            chain, lots = longest_chain(web, pointing), lots_by(web, pointing)
            lot, chains = widest(web, pointing)
            for one in (chain, lots, lot, chains):
                for other in (chain, lots, lot, chains):
                    self.check_longest(web, one, other)
                    self.check_widest(web, one, other)

    def test_things_of_any_kind(self):
        for web in ((0, ()), (1, ()), line(2), (2, ())):
            pointing = web[1]
            chain, lots = longest_chain(web, pointing), lots_by(web, pointing)
            lot, chains = widest(web, pointing)
            for thing in odd_things():
                for one in (thing, [thing], (thing,), [[thing]], [(thing,)], [thing, thing]):
                    self.check_longest(web, one, lots)
                    self.check_longest(web, chain, one)
                    self.check_longest(web, one, one)
                    self.check_widest(web, one, chains)
                    self.check_widest(web, lot, one)
                    self.check_widest(web, one, one)
                self.check_longest(web, chain, lots + [thing])
                self.check_widest(web, lot, chains + [thing])


if __name__ == "__main__":
    unittest.main()
