import unittest
from random import Random

from pointedties.forcings import bundles
from pointedties.leading import pointed
from pointedties.pointings import by_row, is_led, row_by, turned_about
from pointedties.rows import crossings
from pointedties.turning import many_turns, may_turn, turns, with_turn
from pointedties.ways import all_ways
from tests.samples import (
    TWELVE_ROWS, all_pointings, all_rows, all_webs, barred_webs, beside, bundles_by_words, five_webs, full, groups,
    is_led_by_words, led_by_bundles, led_by_words, line, ring, small_webs, star, tied_together, turned, twelve_webs,
)

SIXES = (
    full(6), line(6), ring(6), star(6), groups(1, 1, 2, 2), groups(2, 2, 2), beside(full(3), full(3)),
    beside(line(3), full(3)), tied_together(line(4), (2, ())), tied_together(line(4), full(2)), (6, ()),
)


def turned_by_words(pointing, bundle):
    """A pointing with the arrow of each tie of a bundle turned."""
    return tuple(turned(arrow) if tuple(sorted(arrow)) in bundle else arrow for arrow in pointing)


def drawn_led(web, draws):
    """A led pointing of a web that can be pointed, by turns drawn one after another."""
    pointing = pointed(web)[1]
    for _ in range(draws.randrange(1, 12)):
        choice = [bundle for bundle in bundles(web) if is_led_by_words(turned_by_words(pointing, bundle))]
        if choice:
            pointing = turned_by_words(pointing, draws.choice(choice))
    return pointing


class Walks:
    """All led pointings of a web, and all turns that lead from one to another one, tried bundle by bundle."""

    def __init__(self, web, led):
        self.led = led
        known = set(led)
        self.steps = {one: [] for one in led}
        for one in led:
            for bundle in bundles_by_words(web):
                later = turned_by_words(one, bundle)
                if later in known:
                    self.steps[one].append((bundle[0], later))

    def first_to(self, other):
        """From each led pointing the first of the shortest lists of turns to another one, as lists stand."""
        lists = {other: []}
        newest = [other]
        while newest:
            # A turn can be taken back by the same one, so the walk goes from the end to the begin.
            near = {before for one in newest for least, before in self.steps[one] if before not in lists}
            found = {}
            for before in near:
                ways = [[least] + lists[one] for least, one in self.steps[before] if one in newest]
                found[before] = min(ways)
            lists.update(found)
            newest = list(found)
        return lists


class WithTurnTest(unittest.TestCase):
    def check(self, web, pointing):
        for tie in web[1]:
            bundle = next(bundle for bundle in bundles_by_words(web) if tie in bundle)
            told = with_turn(web, pointing, tie)
            self.assertIsInstance(told, tuple)
            self.assertEqual(told, turned_by_words(pointing, bundle), (web, pointing, tie))
            self.assertEqual(with_turn(web, told, tie), pointing)
            self.assertEqual(with_turn(web, pointing, bundle[0]), told)

    def test_each_tie_of_each_pointing_of_small_webs(self):
        for web in small_webs():
            for pointing in all_pointings(web):
                self.check(web, pointing)

    def test_each_tie_of_first_pointings(self):
        for web in all_webs(5):
            self.check(web, web[1])
            self.check(web, turned_about(web[1]))

    def test_webs_that_are_barred(self):
        # The bundle of a barred class is turned all at once, too.
        for web in (ring(5), ring(7), beside(ring(5), line(3)), tied_together(ring(5), (1, ()))):
            self.check(web, web[1])
        self.assertEqual(with_turn(ring(5), ring(5)[1], (2, 3)), turned_about(ring(5)[1]))
        for web in barred_webs():
            told = with_turn(web, web[1], web[1][-1])
            self.assertEqual(with_turn(web, told, web[1][-1]), web[1])

    def test_known_webs(self):
        self.assertEqual(with_turn(line(4), ((0, 1), (2, 1), (2, 3)), (1, 2)), ((1, 0), (1, 2), (3, 2)))
        self.assertEqual(with_turn(full(3), ((0, 1), (0, 2), (1, 2)), (1, 2)), ((0, 1), (0, 2), (2, 1)))
        # Not led: the arrows are turned all the same.
        self.assertEqual(with_turn(full(3), ((0, 1), (0, 2), (1, 2)), (0, 2)), ((0, 1), (2, 0), (1, 2)))
        self.assertEqual(with_turn(line(3), ((0, 1), (1, 2)), (0, 1)), ((1, 0), (2, 1)))

    def test_twelve_places(self):
        for web in twelve_webs():
            if web[1]:
                pointing = pointed(web)[1]
                for bundle in bundles(web):
                    for tie in (bundle[0], bundle[-1]):
                        self.assertEqual(with_turn(web, pointing, tie), turned_by_words(pointing, bundle), (web, tie))


class MayTurnTest(unittest.TestCase):
    def check(self, web, pointing):
        told = may_turn(web, pointing)
        self.assertIsInstance(told, list)
        wanted = [bundle[0] for bundle in bundles_by_words(web) if is_led_by_words(turned_by_words(pointing, bundle))]
        self.assertEqual(told, wanted, (web, pointing))
        self.assertEqual(told, sorted(set(told)))

    def test_each_led_pointing_of_small_webs(self):
        for web in small_webs():
            for pointing in led_by_words(web):
                self.check(web, pointing)

    def test_led_pointings_of_five_and_six_places(self):
        for web in all_webs(5):
            for pointing in led_by_bundles(web)[::11]:
                self.check(web, pointing)
        for web in SIXES:
            for pointing in all_ways(web)[::37]:
                self.check(web, pointing)

    def test_known_webs(self):
        self.assertEqual(may_turn((0, ()), ()), [])
        self.assertEqual(may_turn((12, ()), ()), [])
        self.assertEqual(may_turn(line(2), ((0, 1),)), [(0, 1)])
        self.assertEqual(may_turn(line(4), ((0, 1), (2, 1), (2, 3))), [(0, 1)])
        # Neighbours in the row alone.
        self.assertEqual(may_turn(full(12), full(12)[1]), [(k, k + 1) for k in range(11)])
        self.assertEqual(may_turn(full(4), by_row(full(4), [2, 0, 3, 1])), [(0, 2), (0, 3), (1, 3)])
        self.assertEqual(may_turn(groups(2, 2, 2), groups(2, 2, 2)[1]), [(0, 2), (2, 4)])

    def test_twelve_places(self):
        draws = Random(15)
        for web in twelve_webs():
            for pointing in (pointed(web)[1], drawn_led(web, draws)):
                wanted = [
                    bundle[0] for bundle in bundles(web) if is_led_by_words(turned_by_words(pointing, bundle))
                ]
                self.assertEqual(may_turn(web, pointing), wanted, web)


class TurnsTest(unittest.TestCase):
    def check_all(self, web, led, step=1):
        walks = Walks(web, led)
        leasts = [web[1].index(bundle[0]) for bundle in bundles_by_words(web)]
        for other in led[::step]:
            wanted = walks.first_to(other)
            for one in led:
                told = turns(web, one, other)
                self.assertIsInstance(told, list)
                self.assertEqual(told, wanted[one], (web, one, other))
                self.assertEqual(len(told), sum(one[at] != other[at] for at in leasts))
                self.assertIs(type(many_turns(web, one, other)), int)
                self.assertEqual(many_turns(web, one, other), len(told))

    def check_walk(self, web, one, other):
        """That told turns lead there by led pointings alone, and turn just the bundles that are otherwise, once each."""
        told = turns(web, one, other)
        least = {bundle[0]: bundle for bundle in bundles(web)}
        pointing = one
        for tie in told:
            pointing = turned_by_words(pointing, least[tie])
            self.assertTrue(is_led_by_words(pointing), (web, told))
        self.assertEqual(pointing, other)
        unlike = [tie for tie, arrow, later in zip(web[1], one, other) if arrow != later and tie in least]
        self.assertEqual(sorted(told), unlike)
        self.assertEqual(many_turns(web, one, other), len(unlike))
        self.check_first(web, one, other, told, least)

    def check_first(self, web, one, other, told, least):
        """That at no step a lesser tie might have been turned that is still to be turned."""
        pointing = one
        for at, tie in enumerate(told):
            for lesser in [later for later in told[at:] if later < tie]:
                self.assertFalse(is_led_by_words(turned_by_words(pointing, least[lesser])), (web, told))
            pointing = turned_by_words(pointing, least[tie])

    def test_each_two_led_pointings_of_small_webs(self):
        for web in small_webs():
            self.check_all(web, led_by_words(web))

    def test_led_pointings_of_five_places(self):
        for web in all_webs(5):
            led = led_by_bundles(web)
            if len(led) <= 24:
                self.check_all(web, led, 5)
        self.check_all(full(5), led_by_bundles(full(5)), 23)

    def test_led_pointings_of_six_places(self):
        for web in SIXES[1:]:
            led = led_by_bundles(web)
            self.assertEqual(led, all_ways(web))
            self.check_all(web, led, 29)

    def test_from_one_to_itself(self):
        for web in five_webs():
            kind, first = pointed(web)
            if kind == "led":
                self.assertEqual(turns(web, first, first), [])
                self.assertEqual(turns(web, first, tuple(list(first))), [])
                self.assertEqual(many_turns(web, first, first), 0)
        for web in twelve_webs():
            first = pointed(web)[1]
            self.assertEqual([turns(web, first, first), many_turns(web, first, first)], [[], 0])

    def test_from_one_to_it_turned_about(self):
        for web in five_webs():
            kind, first = pointed(web)
            if kind == "led":
                told = turns(web, first, turned_about(first))
                self.assertEqual(sorted(told), [bundle[0] for bundle in bundles_by_words(web)])
                self.check_walk(web, first, turned_about(first))

    def test_twelve_places(self):
        draws = Random(16)
        for web in twelve_webs():
            first = pointed(web)[1]
            self.check_walk(web, first, turned_about(first))
            for _ in range(3):
                self.check_walk(web, drawn_led(web, draws), drawn_led(web, draws))

    def test_all_tied_is_neighbours_exchanged_in_a_row(self):
        for many in (2, 3, 4):
            for one in all_rows(many):
                for other in all_rows(many):
                    self.check_exchanged(full(many), one, other)
        for one in TWELVE_ROWS[:4]:
            for other in TWELVE_ROWS[::2]:
                self.check_exchanged(full(12), one, other)

    def check_exchanged(self, web, one, other):
        begin, end = by_row(web, one), by_row(web, other)
        self.assertEqual(row_by(web, begin), one)
        self.assertEqual(turns(web, begin, end), crossings(one, other))
        self.assertEqual(many_turns(web, begin, end), len(crossings(one, other)))

    def test_known_webs(self):
        web = line(4)
        one, other = ((0, 1), (2, 1), (2, 3)), ((1, 0), (1, 2), (3, 2))
        self.assertEqual([turns(web, one, other), many_turns(web, one, other)], [[(0, 1)], 1])
        web = full(3)
        self.assertEqual(turns(web, web[1], turned_about(web[1])), [(0, 1), (0, 2), (1, 2)])
        self.assertEqual(turns(web, turned_about(web[1]), web[1]), [(0, 1), (0, 2), (1, 2)])
        web = beside(line(2), line(3))
        self.assertEqual(turns(web, ((0, 1), (2, 3), (4, 3)), ((1, 0), (3, 2), (3, 4))), [(0, 1), (2, 3)])
        self.assertEqual(many_turns(full(12), full(12)[1], turned_about(full(12)[1])), 66)

    def test_each_turn_may_be_done_when_its_time_comes(self):
        draws = Random(17)
        for web in SIXES + (full(12), groups(3, 4, 5)):
            one, other = drawn_led(web, draws), drawn_led(web, draws)
            pointing = one
            for tie in turns(web, one, other):
                self.assertIn(tie, may_turn(web, pointing))
                pointing = with_turn(web, pointing, tie)
                self.assertIs(is_led(web, pointing), True)
            self.assertEqual(pointing, other)


if __name__ == "__main__":
    unittest.main()
