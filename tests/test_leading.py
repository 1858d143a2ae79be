import unittest
from itertools import combinations, permutations, product

from pointedties.forcings import bundles, forcing_way
from pointedties.leading import can_be_pointed, extended, pointed, settled
from pointedties.pointings import by_row, is_led, is_pointing
from pointedties.waycheck import shows_round
from pointedties.webs import gaps_of, put_for, renumbered
from tests.samples import (
    all_arrows, all_webs, barred_webs, beside, five_webs, full, groups, is_led_by_words, led_by_bundles, led_by_words,
    line, ring, small_webs, turned, twelve_webs,
)


def least_round(web):
    """The forcing way of the least tie that has a round; None if none has one."""
    for tie in web[1]:
        way = forcing_way(web, tie, turned(tie))
        if way is not None:
            return way
    return None


class LeadingCase(unittest.TestCase):
    def check_asked(self, web, led, arrows):
        """Whether settled and extended tell of these arrows what the list of all led pointings does."""
        having = [pointing for pointing in led if set(arrows) <= set(pointing)]
        wanted = None
        if having:
            wanted = [arrow for arrow in all_arrows(web) if all(arrow in pointing for pointing in having)]
        self.assertEqual(settled(web, list(arrows)), wanted, (web, arrows))
        self.assertEqual(extended(web, list(arrows)), having[0] if having else None, (web, arrows))


class PointedTest(unittest.TestCase):
    def check(self, web, led):
        told = pointed(web)
        self.assertIsInstance(told, tuple)
        self.assertIs(can_be_pointed(web), bool(led))
        if led:
            self.assertEqual(told, ("led", led[0]), web)
            for bundle in bundles(web):
                self.assertIn(bundle[0], told[1])
        else:
            self.assertEqual(told, ("barred", least_round(web)), web)
            self.assertIsInstance(told[1], list)
            self.assertIs(shows_round(web, told[1]), True)

    def test_all_pointings_gone_through(self):
        for web in five_webs():
            self.check(web, led_by_words(web))

    def test_six_places(self):
        for at, web in enumerate(all_webs(6)):
            if at % 41 == 0 and len(bundles(web)) <= 8:
                self.check(web, led_by_bundles(web))

    def test_rings(self):
        for many in range(3, 11):
            self.check(ring(many), led_by_words(ring(many)))
            self.assertIs(can_be_pointed(ring(many)), many == 3 or many % 2 == 0)

    def test_samples(self):
        self.assertEqual(pointed((0, ())), ("led", ()))
        self.assertEqual(pointed((1, ())), ("led", ()))
        self.assertEqual(pointed((12, ())), ("led", ()))
        self.assertEqual(pointed(line(4)), ("led", ((0, 1), (2, 1), (2, 3))))
        self.assertEqual(pointed(full(4)), ("led", full(4)[1]))
        self.assertEqual(pointed((3, ((0, 2), (1, 2)))), ("led", ((0, 2), (1, 2))))
        self.assertEqual(pointed((3, ((0, 1), (0, 2)))), ("led", ((0, 1), (0, 2))))

    def test_barred(self):
        self.assertEqual(pointed(ring(5)), ("barred", [(0, 1), (0, 4), (3, 4), (3, 2), (1, 2), (1, 0)]))
        for web in barred_webs():
            self.check(web, [])

    def test_rings_gaps(self):
        for many in range(5, 13):
            self.check(gaps_of(ring(many)), [])
        self.assertIs(can_be_pointed(gaps_of(ring(4))), True)

    def test_the_least_tie_that_has_a_round(self):
        kind, told = pointed(beside(line(4), ring(5)))
        self.assertEqual((kind, told[0], told[-1]), ("barred", (4, 5), (5, 4)))
        kind, told = pointed(beside(ring(7), ring(5)))
        self.assertEqual((kind, told[0], told[-1]), ("barred", (0, 1), (1, 0)))
        kind, told = pointed(beside(ring(5), ring(7)))
        self.assertEqual((kind, told), pointed(ring(5)))
        # A place tied to a whole ring: its ties come first, and have no round.
        wheel = (6, tuple(sorted([(0, k) for k in range(1, 6)] + [(a + 1, b + 1) for a, b in ring(5)[1]])))
        kind, told = pointed(wheel)
        self.assertEqual((kind, told[0], told[-1]), ("barred", (1, 2), (2, 1)))

    def test_a_ring_in_any_order(self):
        for numbers in permutations(range(5)):
            self.check(renumbered(ring(5), list(numbers)), [])

    def test_a_ring_put_for_a_place(self):
        for place in range(3):
            web = put_for(line(3), place, ring(5))
            self.check(web, led_by_bundles(web))
            self.assertIs(can_be_pointed(web), False)

    def test_twelve_places(self):
        for web in twelve_webs():
            kind, pointing = pointed(web)
            self.assertEqual(kind, "led")
            self.assertIs(can_be_pointed(web), True)
            self.assertIs(is_pointing(web, pointing), True)
            self.assertIs(is_led_by_words(pointing), True)
            for bundle in bundles(web):
                self.assertIn(bundle[0], pointing)
            if len(bundles(web)) <= 9:
                self.assertEqual(pointing, led_by_bundles(web)[0])


class SettledTest(LeadingCase):
    def test_all_lists_of_a_few_arrows(self):
        for web in small_webs():
            led = led_by_words(web)
            for size in range(3):
                for arrows in product(all_arrows(web), repeat=size):
                    self.check_asked(web, led, arrows)

    def test_three_arrows_and_more(self):
        for web in (full(4), groups(1, 1, 2), groups(2, 2), line(4), (4, ((0, 1), (0, 2), (1, 2), (2, 3)))):
            led = led_by_words(web)
            for size in (3, 4):
                for arrows in combinations(all_arrows(web), size):
                    self.check_asked(web, led, arrows)
                    self.check_asked(web, led, arrows[::-1])

    def test_five_places(self):
        for at, web in enumerate(all_webs(5)):
            led = led_by_words(web)
            self.check_asked(web, led, [])
            for arrow in all_arrows(web):
                self.check_asked(web, led, [arrow])
            if at % 13 == 0:
                for arrows in combinations(all_arrows(web), 2):
                    self.check_asked(web, led, arrows)
                for arrows in list(combinations(all_arrows(web), 3))[::5]:
                    self.check_asked(web, led, arrows)

    def test_five_places_with_all_ties(self):
        led = led_by_words(full(5))
        arrows = all_arrows(full(5))
        for chosen in list(combinations(arrows, 4))[::7]:
            self.check_asked(full(5), led, chosen)
        for pointing in led:
            self.check_asked(full(5), led, pointing)

    def test_no_arrows(self):
        for web in five_webs():
            if can_be_pointed(web):
                self.assertEqual(settled(web, []), [])
                self.assertEqual(extended(web, []), pointed(web)[1])
            else:
                self.assertIsNone(settled(web, []))
                self.assertIsNone(extended(web, []))

    def test_without_ties(self):
        for many in (0, 1, 12):
            self.assertEqual(settled((many, ()), []), [])
            self.assertEqual(extended((many, ()), []), ())

    def test_samples(self):
        self.assertEqual(settled(line(4), [(3, 2)]), [(1, 0), (1, 2), (3, 2)])
        self.assertEqual(extended(line(4), [(3, 2)]), ((1, 0), (1, 2), (3, 2)))
        self.assertEqual(settled(full(3), [(2, 0), (0, 1)]), [(0, 1), (2, 0), (2, 1)])
        self.assertEqual(settled(full(3), [(2, 0)]), [(2, 0)])
        self.assertEqual(extended(full(3), [(2, 0)]), ((0, 1), (2, 0), (2, 1)))

    def test_arrows_that_bar_one_another(self):
        for web, arrows in (
            (line(4), [(0, 1), (3, 2)]), (line(2), [(0, 1), (1, 0)]), (full(3), [(0, 1), (1, 2), (2, 0)]),
            (full(4), [(0, 1), (1, 2), (2, 3), (3, 0)]), (groups(2, 2, 2), [(0, 2), (3, 4), (5, 1)]),
        ):
            for order in permutations(arrows):
                self.assertIsNone(settled(web, list(order)))
                self.assertIsNone(extended(web, list(order)))

    def test_an_arrow_twice_and_any_order(self):
        arrows = [(4, 2), (2, 0), (0, 3)]
        wanted = settled(full(5), arrows)
        self.assertEqual(wanted, [(0, 3), (2, 0), (2, 3), (4, 0), (4, 2), (4, 3)])
        for order in permutations(arrows + arrows[:1]):
            self.assertEqual(settled(full(5), list(order)), wanted)
            self.assertEqual(extended(full(5), list(order)), by_row(full(5), [4, 2, 0, 1, 3]))
        self.assertEqual(settled(full(5), arrows * 4), wanted)

    def test_barred_webs_with_arrows_that_have_no_round(self):
        web = beside(line(4), ring(5))
        for arrows in ([], [(0, 1)], [(4, 5)], [(0, 1), (1, 0)]):
            self.assertIsNone(settled(web, arrows))
            self.assertIsNone(extended(web, arrows))
        for web in barred_webs():
            for arrow in all_arrows(web)[::5]:
                self.assertIsNone(settled(web, [arrow]))
                self.assertIsNone(extended(web, [arrow]))


class TwelvePlacesTest(LeadingCase):
    def test_against_all_led_ones(self):
        for web in twelve_webs():
            if 0 < len(bundles(web)) <= 9:
                led = led_by_bundles(web)
                arrows = all_arrows(web)
                for at, one in enumerate(arrows):
                    other, third, fourth = [arrows[k % len(arrows)] for k in (5 * at + 3, 3 * at + 1, 7 * at)]
                    self.check_asked(web, led, [one])
                    self.check_asked(web, led, [one, other])
                    self.check_asked(web, led, [one, third, fourth])

    def test_all_ties(self):
        web = full(12)
        self.assertEqual(settled(web, [(11, 0)]), [(11, 0)])
        self.assertEqual(extended(web, [(11, 0)]), by_row(web, [11] + list(range(11))))
        down = [(k + 1, k) for k in range(11)]
        self.assertEqual(settled(web, down), [(b, a) for b in range(12) for a in range(b)])
        self.assertEqual(extended(web, down[::-1]), by_row(web, list(range(11, -1, -1))))
        self.assertIsNone(settled(web, down + [(0, 11)]))
        self.assertIsNone(extended(web, [(0, 11)] + down))
        self.assertEqual(settled(web, [(5, 9), (9, 2), (2, 7)]), [(2, 7), (5, 2), (5, 7), (5, 9), (9, 2), (9, 7)])

    def test_groups_in_a_row(self):
        web = groups(2, 2, 2, 2, 2, 2)
        told = settled(web, [(11, 0), (1, 4)])
        pairs = [(5, 0), (0, 2), (5, 2)]
        self.assertEqual(told, sorted((2 * p + a, 2 * q + b) for p, q in pairs for a in (0, 1) for b in (0, 1)))
        self.assertIsNone(settled(web, [(11, 0), (1, 4), (5, 10)]))

    def test_settled_is_so_and_no_more(self):
        for web in twelve_webs():
            arrows = all_arrows(web)
            for asked in (arrows[:1], arrows[3::29], arrows[::-37], arrows[-2:]):
                pointing = extended(web, asked)
                known = settled(web, asked)
                self.assertIs(known is None, pointing is None)
                if known is not None:
                    self.check_open_ones(web, asked, known)

    def check_open_ones(self, web, asked, known):
        """Of each arrow that isn't settled there is a led pointing without it."""
        for one in all_arrows(web):
            told = extended(web, asked + [turned(one)])
            self.assertIs(told is None, one in known)
            if told is not None:
                self.assertIs(is_pointing(web, told) and is_led(web, told), True)
                self.assertLessEqual({turned(one), *asked, *known}, set(told))


if __name__ == "__main__":
    unittest.main()
