import unittest

from pointedties.errors import Barred, TieError
from pointedties.leading import can_be_pointed, pointed
from pointedties.orders import longest_chain, lots_by, widest
from pointedties.webfew import fewest_groups, greatest_tied, greatest_untied, is_shared
from pointedties.webs import gaps_of, put_for
from tests.samples import (
    all_webs, barred_webs, beside, five_webs, full, groups, line, odd_things, ring, star, tied_sets,
    tied_together, twelve_webs,
)

ASKS = (greatest_tied, fewest_groups, greatest_untied, is_shared)


def untied_sets(web):
    return tied_sets(gaps_of(web))


def groupings(places):
    """All ways to put places into groups."""
    if not places:
        yield []
        return
    for grouping in groupings(places[1:]):
        yield [places[:1]] + grouping
        for at, group in enumerate(grouping):
            yield grouping[:at] + [places[:1] + group] + grouping[at + 1:]


def shared_by_words(web):
    sets = tied_sets(web)
    most = max(len(places) for places in sets)
    greatest = [places for places in sets if len(places) == most]
    return any(all(place in places for places in greatest) for place in range(web[0]))


class FewCase(unittest.TestCase):
    def check(self, web):
        kind, pointing = pointed(web)
        self.assertEqual(kind, "led")
        told = greatest_tied(web)
        self.assertIsInstance(told, list)
        self.assertEqual(told, sorted(longest_chain(web, pointing)), web)
        self.assertIn(told, tied_sets(web))
        self.assertEqual(len(told), max(len(places) for places in tied_sets(web)))
        lots = fewest_groups(web)
        self.assertEqual(lots, lots_by(web, pointing), web)
        self.assertEqual(len(lots), len(told))
        self.assertEqual(sorted(place for lot in lots for place in lot), list(range(web[0])))
        many = greatest_untied(web)
        self.assertIs(type(many), int)
        self.assertEqual(many, max(len(places) for places in untied_sets(web)), web)
        self.assertEqual(many, len(widest(web, pointing)[0]))
        self.assertIs(is_shared(web), shared_by_words(web), web)


class SmallTest(FewCase):
    def test_all_sets_of_places(self):
        for web in five_webs():
            if can_be_pointed(web):
                self.check(web)

    def test_all_groupings(self):
        for web in five_webs():
            if can_be_pointed(web):
                alone = untied_sets(web)
                fine = [split for split in groupings(list(range(web[0]))) if all(group in alone for group in split)]
                self.assertEqual(len(fewest_groups(web)), min(len(split) for split in fine))
                self.assertIn(sorted(fewest_groups(web)), [sorted(split) for split in fine])

    def test_six_places(self):
        for at, web in enumerate(all_webs(6)):
            if at % 61 == 0 and can_be_pointed(web):
                self.check(web)

    def test_no_places_and_one(self):
        self.assertEqual([ask((0, ())) for ask in ASKS], [[], [], 0, False])
        self.assertEqual([ask((1, ())) for ask in ASKS], [[0], [[0]], 1, True])

    def test_samples(self):
        self.assertEqual([ask(line(4)) for ask in ASKS], [[0, 1], [[0, 2], [1, 3]], 2, False])
        self.assertEqual([ask(line(3)) for ask in ASKS], [[0, 1], [[0, 2], [1]], 2, True])
        self.assertEqual([ask(full(3)) for ask in ASKS], [[0, 1, 2], [[0], [1], [2]], 1, True])
        self.assertEqual([ask((3, ())) for ask in ASKS], [[0], [[0, 1, 2]], 3, False])
        self.assertEqual([ask(beside(full(2), full(3))) for ask in ASKS], [[2, 3, 4], [[0, 2], [1, 3], [4]], 2, True])

    def test_shared(self):
        for web, wanted in (
            (star(6), True), (line(2), True), (beside(line(2), line(2)), False), (groups(1, 2, 2), True),
            (groups(2, 2, 2), False), (beside(full(3), star(4)), True), (tied_together((2, ()), full(1)), True),
            (beside(full(3), full(3)), False), (put_for(line(3), 1, full(2)), True),
        ):
            self.assertIs(is_shared(web), wanted, web)
            self.assertIs(shared_by_words(web), wanted, web)

    def test_what_is_no_web_shares_nothing(self):
        for thing in odd_things():
            if thing != (0, ()):
                self.assertIs(is_shared(thing), False, thing)
        for thing in ((True, ()), [1, ()], (2, [(0, 1)]), (2, ((1, 0),)), (2, ((0, 2),)), (1, ((0, 0),))):
            self.assertIs(is_shared(thing), False, thing)


class TwelvePlacesTest(FewCase):
    def test_all_sets_of_places(self):
        for web in twelve_webs():
            self.check(web)

    def test_samples(self):
        self.assertEqual([ask(full(12)) for ask in ASKS], [list(range(12)), [[p] for p in range(12)], 1, True])
        self.assertEqual([ask((12, ())) for ask in ASKS], [[0], [list(range(12))], 12, False])
        self.assertEqual(greatest_tied(groups(3, 4, 5)), [0, 3, 7])
        self.assertEqual(greatest_untied(groups(3, 4, 5)), 5)
        self.assertEqual(greatest_untied(ring(12)), 6)
        self.assertEqual([ask(star(12)) for ask in ASKS], [[0, 1], [[0], list(range(1, 12))], 11, True])


class BarredTest(unittest.TestCase):
    def webs(self):
        yield from barred_webs()
        for many in (5, 7):
            yield from (beside(ring(many), (1, ())), beside((1, ()), ring(many)), tied_together(ring(many), (1, ())))
            yield from (tied_together(full(2), ring(many)), beside(ring(many), line(3)))
            yield put_for(line(3), 1, ring(many))

    def refused(self, ask, web):
        with self.assertRaises(Barred) as caught:
            ask(web)
        self.assertIs(type(caught.exception), Barred)
        return caught.exception

    def test_refused_with_the_round(self):
        for web in self.webs():
            kind, found = pointed(web)
            self.assertEqual(kind, "barred")
            for ask in ASKS:
                error = self.refused(ask, web)
                self.assertIsInstance(error, TieError)
                self.assertIsInstance(error, ValueError)
                self.assertIsInstance(error.ring, list)
                self.assertEqual(error.ring, found, web)

    def test_small_barred_webs(self):
        for web in five_webs():
            if not can_be_pointed(web):
                for ask in ASKS:
                    self.assertEqual(self.refused(ask, web).ring, pointed(web)[1])

    def test_each_ring_is_a_list_of_its_own(self):
        for web in self.webs():
            found = pointed(web)[1]
            errors = [self.refused(ask, web) for ask in ASKS for _ in range(2)]
            self.assertEqual(len({id(error.ring) for error in errors}), len(errors))
            errors[0].ring.append("spoilt")
            errors[1].ring.clear()
            for error in errors[2:]:
                self.assertEqual(error.ring, found)
            for ask in ASKS:
                self.assertEqual(self.refused(ask, web).ring, found)

    def test_nothing_else_is_changed_by_a_refusal(self):
        first = [ask(line(4)) for ask in ASKS]
        for ask in ASKS:
            self.refused(ask, ring(5))
        self.assertEqual([ask(line(4)) for ask in ASKS], first)


if __name__ == "__main__":
    unittest.main()
