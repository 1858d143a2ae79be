import unittest
from itertools import combinations, permutations, product
from math import factorial, prod

from pointedties.forcings import bundles
from pointedties.leading import can_be_pointed, pointed, settled
from pointedties.modules import parts_of, shape_of
from pointedties.pointings import by_row, turned_about
from pointedties.ways import all_ways, common_to, count_ways
from pointedties.webs import gaps_of, put_for, renumbered
from tests.samples import (
    all_arrows, all_pointings, all_webs, barred_webs, beside, five_webs, full, groups, led_by_bundles, led_by_words,
    line, nodes_of, ring, small_webs, star, tied_together, turned, twelve_webs,
)

SEVENS = (
    full(7), line(7), ring(6), ring(7), star(7), groups(3, 4), groups(1, 2, 4), groups(1, 1, 1, 2, 2), (7, ()),
    beside(full(3), full(4)), beside(line(4), full(3)), tied_together(line(4), full(3)), put_for(line(4), 1, full(4)),
    put_for(full(4), 2, line(4)), beside(ring(5), line(2)), tied_together(ring(5), line(2)),
)


def count_by_parts(web):
    """How many led pointings a web of one place or more has, by the words of point [9]."""
    many = 1
    for node in nodes_of(parts_of(web)):
        if node[0] == "all":
            many *= factorial(len(node[1]))
        if node[0] == "close":
            many *= 2 if can_be_pointed(shape_of(web, node)) else 0
    return many


class AgainstAllTest(unittest.TestCase):
    def check(self, web, led):
        told = all_ways(web)
        self.assertIsInstance(told, list)
        self.assertEqual(told, led, web)
        self.assertEqual(count_ways(web), len(led), web)

    def test_all_pointings_gone_through(self):
        for web in five_webs():
            self.check(web, led_by_words(web))

    def test_six_places(self):
        for at, web in enumerate(all_webs(6)):
            if at % 37 == 0 and len(bundles(web)) <= 8:
                self.check(web, led_by_bundles(web))

    def test_six_places_with_few_ties(self):
        for at, web in enumerate(all_webs(6)):
            if len(web[1]) <= 9 and at % 211 == 0:
                self.check(web, led_by_words(web))

    def test_seven_places(self):
        for web in SEVENS:
            if len(bundles(web)) <= 9:
                self.check(web, led_by_bundles(web))

    def test_all_ties(self):
        for many in range(8):
            wanted = sorted(by_row(full(many), list(row)) for row in permutations(range(many)))
            self.check(full(many), wanted)

    def test_in_another_order(self):
        web = beside(line(4), full(2))
        for numbers in list(permutations(range(6)))[::17]:
            other = renumbered(web, list(numbers))
            self.check(other, led_by_words(other))


class WaysTest(unittest.TestCase):
    def test_barred(self):
        for web in barred_webs():
            self.assertEqual(count_ways(web), 0)
            if web[0] <= 7:
                self.assertEqual(all_ways(web), [])
        for web in (beside(full(2), ring(5)), tied_together(ring(5), full(2)), put_for(line(3), 1, ring(5))):
            self.assertEqual((count_ways(web), all_ways(web)), (0, []))

    def test_without_ties(self):
        for many in range(13):
            self.assertEqual(count_ways((many, ())), 1)
        for many in range(8):
            self.assertEqual(all_ways((many, ())), [()])

    def test_kinds(self):
        for web in (line(2), line(4), full(3), (0, ())):
            for way in all_ways(web):
                self.assertIsInstance(way, tuple)
            self.assertIs(type(count_ways(web)), int)

    def test_samples(self):
        self.assertEqual(all_ways(line(2)), [((0, 1),), ((1, 0),)])
        self.assertEqual(all_ways(line(4)), [((0, 1), (2, 1), (2, 3)), ((1, 0), (1, 2), (3, 2))])
        self.assertEqual(count_ways(line(2)), 2)

    def test_the_first_is_the_one_that_pointed_tells(self):
        for web in list(five_webs()) + list(SEVENS):
            if can_be_pointed(web):
                told = all_ways(web)
                self.assertEqual(pointed(web), ("led", told[0]))
                self.assertEqual(told, sorted(turned_about(way) for way in told))


class TwelvePlacesTest(unittest.TestCase):
    def test_all_ties(self):
        for many in range(13):
            self.assertEqual(count_ways(full(many)), factorial(many))

    def test_groups(self):
        for sizes in ((12,), (6, 6), (3, 4, 5), (1, 1, 10), (1, 2, 2, 7), (2,) * 6, (1,) * 6 + (6,), (1, 11), (4,) * 3):
            self.assertEqual(count_ways(groups(*sizes)), factorial(len(sizes)))

    def test_lines_stars_and_rings(self):
        for many in range(2, 13):
            self.assertEqual(count_ways(line(many)), 2)
            self.assertEqual(count_ways(star(many)), 2)
        for many in range(4, 13):
            self.assertEqual(count_ways(ring(many)), 2 if many % 2 == 0 else 0)

    def test_webs_beside_one_another(self):
        webs = ((1, ()), full(2), full(4), line(4), ring(6), groups(2, 1), ring(5), star(4))
        for one, other in product(webs, repeat=2):
            self.assertEqual(count_ways(beside(one, other)), count_ways(one) * count_ways(other))
        self.assertEqual(count_ways(beside(full(6), full(6))), factorial(6) ** 2)
        self.assertEqual(count_ways(beside(*[full(3)] * 4)), 6 ** 4)

    def test_webs_with_all_ties_between(self):
        self.assertEqual(count_ways(tied_together(line(4), line(4), line(4))), 6 * 2 ** 3)
        self.assertEqual(count_ways(tied_together(line(4), full(8))), factorial(9) * 2)
        self.assertEqual(count_ways(tied_together(*[beside(full(2), full(1))] * 4)), factorial(4) * 2 ** 4)
        self.assertEqual(count_ways(tied_together(ring(6), (3, ()), full(3))), factorial(5) * 2)
        self.assertEqual(count_ways(tied_together(ring(7), full(5))), 0)

    def test_webs_put_for_places(self):
        self.assertEqual(count_ways(put_for(line(4), 1, full(9))), 2 * factorial(9))
        self.assertEqual(count_ways(put_for(line(4), 3, (9, ()))), 2)
        self.assertEqual(count_ways(put_for(ring(6), 0, line(7))), 4)
        self.assertEqual(count_ways(put_for(put_for(line(4), 0, full(5)), 7, full(5))), 2 * factorial(5) ** 2)
        self.assertEqual(count_ways(put_for(line(4), 1, ring(5))), 0)
        self.assertEqual(count_ways(put_for(ring(5), 1, full(8))), 0)

    def test_by_the_tree_of_parts(self):
        webs = list(five_webs()) + list(twelve_webs()) + list(barred_webs()) + list(SEVENS)
        for web in webs + [gaps_of(web) for web in webs]:
            if web[0]:
                self.assertEqual(count_ways(web), count_by_parts(web), web)

    def test_all_ways_of_bundles_gone_through(self):
        for web in twelve_webs():
            if len(bundles(web)) <= 9:
                self.assertEqual(count_ways(web), len(led_by_bundles(web)))

    def test_many_parts(self):
        web = beside(full(2), full(3), line(4), star(3))
        self.assertEqual(count_ways(web), prod((2, 6, 2, 2)))
        self.assertEqual(count_ways(renumbered(web, [7, 0, 11, 3, 5, 1, 9, 2, 10, 4, 8, 6])), 48)


class CommonTest(unittest.TestCase):
    def check(self, web, ways):
        told = common_to(web, list(ways))
        self.assertIsInstance(told, list)
        self.assertEqual(told, [arrow for arrow in all_arrows(web) if all(arrow in way for way in ways)])

    def test_one_pointing(self):
        for web in small_webs():
            for way in all_pointings(web):
                self.assertEqual(common_to(web, [way]), sorted(way))
                self.assertEqual(common_to(web, [way, way]), sorted(way))

    def test_several(self):
        for web in (line(3), full(3), line(4), groups(2, 2), beside(full(2), full(2))):
            ways = list(all_pointings(web))
            for chosen in list(product(ways, repeat=2)) + list(combinations(ways, 3)):
                self.check(web, chosen)

    def test_another_order(self):
        ways = all_ways(full(4))
        for chosen in list(combinations(ways, 3))[::101]:
            wanted = common_to(full(4), list(chosen))
            for order in permutations(chosen + chosen[:1]):
                self.assertEqual(common_to(full(4), list(order)), wanted)

    def test_all_led_ones(self):
        for web in five_webs():
            ways = all_ways(web)
            if ways:
                self.assertEqual(common_to(web, ways), [])
                for arrow in all_arrows(web):
                    having = [way for way in ways if arrow in way]
                    self.assertEqual(common_to(web, having), settled(web, [arrow]))

    def test_without_ties(self):
        for many in (0, 1, 12):
            self.assertEqual(common_to((many, ()), [()]), [])
            self.assertEqual(common_to((many, ()), [(), ()]), [])

    def test_samples(self):
        web = full(3)
        self.assertEqual(common_to(web, [((0, 1), (0, 2), (2, 1)), ((1, 0), (0, 2), (2, 1))]), [(0, 2), (2, 1)])
        self.assertEqual(common_to(web, [((1, 0), (2, 0), (2, 1))]), [(1, 0), (2, 0), (2, 1)])
        self.assertEqual(common_to(web, [web[1], turned_about(web[1])]), [])

    def test_twelve_places(self):
        for web in twelve_webs():
            first = pointed(web)[1]
            self.assertEqual(common_to(web, [first]), sorted(first))
            self.assertEqual(common_to(web, [first, turned_about(first)]), [])
            mixed = tuple(turned(arrow) if at % 3 else arrow for at, arrow in enumerate(first))
            self.check(web, [first, mixed])


if __name__ == "__main__":
    unittest.main()
