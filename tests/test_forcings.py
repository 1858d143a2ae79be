import unittest

from pointedties.forcings import bundles, class_of, classes, forced, forcing_way
from pointedties.waycheck import shows_way
from tests.samples import (
    all_arrows, barred_webs, beside, five_webs, force_by_words, full, groups, joined_by_words, line, ring, small_webs,
    turned, twelve_webs,
)

SOME = (line(5), line(6), ring(5), ring(6), ring(7), groups(2, 2), groups(2, 3), groups(1, 2, 3), groups(2, 2, 2),
        (6, ()), full(5), beside(line(3), ring(5)), beside(full(3), line(4)))


def shortest_ways(web, one, other):
    """All lists with the fewest arrows from one to other, each forcing the next one."""
    ways, seen = [[one]], {one}
    while ways:
        there = [way for way in ways if way[-1] == other]
        if there:
            return there
        ways = [
            way + [arrow] for way in ways for arrow in all_arrows(web)
            if arrow not in seen and force_by_words(web, way[-1], arrow)
        ]
        seen |= {way[-1] for way in ways}
    return []


class ForcedTest(unittest.TestCase):
    def check(self, web):
        arrows = all_arrows(web)
        for arrow in arrows:
            wanted = [other for other in arrows if force_by_words(web, arrow, other)]
            told = forced(web, arrow)
            self.assertIsInstance(told, list)
            self.assertEqual(told, wanted, (web, arrow))

    def test_by_words(self):
        for web in five_webs():
            self.check(web)

    def test_rings_lines_and_groups(self):
        for web in SOME:
            self.check(web)

    def test_twelve_places(self):
        for web in twelve_webs():
            self.check(web)
        for web in barred_webs():
            self.check(web)

    def test_samples(self):
        self.assertEqual(forced(line(4), (0, 1)), [(2, 1)])
        self.assertEqual(forced(line(4), (1, 2)), [(1, 0), (3, 2)])
        self.assertEqual(forced(line(4), (2, 1)), [(0, 1), (2, 3)])
        self.assertEqual(forced(ring(5), (0, 1)), [(0, 4), (2, 1)])
        self.assertEqual(forced(groups(2, 2), (0, 2)), [(0, 3), (1, 2)])
        self.assertEqual(forced((5, ((0, 4), (1, 4), (2, 4), (3, 4))), (2, 4)), [(0, 4), (1, 4), (3, 4)])
        self.assertEqual(forced((5, ((0, 4), (1, 4), (2, 4), (3, 4))), (4, 2)), [(4, 0), (4, 1), (4, 3)])

    def test_a_lone_tie_and_all_ties_force_nothing(self):
        for many in range(2, 13):
            for arrow in all_arrows(full(many)):
                self.assertEqual(forced(full(many), arrow), [])
        self.assertEqual(forced((12, ((3, 8),)), (8, 3)), [])

    def test_both_ways_and_turned(self):
        for web in five_webs():
            told = {arrow: forced(web, arrow) for arrow in all_arrows(web)}
            for arrow in told:
                self.assertNotIn(arrow, told[arrow])
                self.assertNotIn(turned(arrow), told[arrow])
                for other in told[arrow]:
                    self.assertIn(arrow, told[other])
                    self.assertIn(turned(other), told[turned(arrow)])


class ClassesTest(unittest.TestCase):
    def check(self, web):
        wanted = [list(members) for members in joined_by_words(web)]
        told = classes(web)
        self.assertEqual(told, wanted, web)
        self.assertEqual(sorted(arrow for members in told for arrow in members), all_arrows(web))
        for members in told:
            self.assertIn(sorted(turned(arrow) for arrow in members), told)
            for arrow in members:
                self.assertEqual(class_of(web, arrow), members)
        ties = {tuple(sorted({tuple(sorted(arrow)) for arrow in members})) for members in wanted}
        self.assertEqual(bundles(web), [list(bundle) for bundle in sorted(ties)])
        self.assertEqual(sorted(tie for bundle in bundles(web) for tie in bundle), list(web[1]))

    def test_by_words(self):
        for web in five_webs():
            self.check(web)

    def test_rings_lines_and_groups(self):
        for web in SOME:
            self.check(web)

    def test_many_places(self):
        for web in twelve_webs():
            self.check(web)
        for web in barred_webs():
            self.check(web)

    def test_samples(self):
        self.assertEqual(classes(line(3)), [[(0, 1), (2, 1)], [(1, 0), (1, 2)]])
        self.assertEqual(bundles(line(3)), [[(0, 1), (1, 2)]])
        self.assertEqual(classes(full(3)), [[(0, 1)], [(0, 2)], [(1, 0)], [(1, 2)], [(2, 0)], [(2, 1)]])
        self.assertEqual(bundles(full(3)), [[(0, 1)], [(0, 2)], [(1, 2)]])
        self.assertEqual(class_of(full(3), (2, 0)), [(2, 0)])
        self.assertEqual(class_of(line(4), (3, 2)), [(1, 0), (1, 2), (3, 2)])
        self.assertEqual(bundles(groups(1, 1, 2)), [[(0, 1)], [(0, 2), (0, 3)], [(1, 2), (1, 3)]])

    def test_without_ties(self):
        for many in (0, 1, 2, 12):
            self.assertEqual(classes((many, ())), [])
            self.assertEqual(bundles((many, ())), [])

    def test_a_round_makes_one_class_of_both_ways(self):
        self.assertEqual(classes(ring(5)), [all_arrows(ring(5))])
        self.assertEqual(bundles(ring(5)), [list(ring(5)[1])])
        self.assertEqual(class_of(ring(7), (3, 2)), all_arrows(ring(7)))

    def test_two_webs_beside_one_another(self):
        both = beside(ring(5), line(3))
        self.assertEqual(bundles(both), [list(ring(5)[1]), [(5, 6), (6, 7)]])
        self.assertEqual(classes(both), [all_arrows(ring(5)), [(5, 6), (7, 6)], [(6, 5), (6, 7)]])


class ForcingWayTest(unittest.TestCase):
    def check(self, web):
        for one in all_arrows(web):
            for other in all_arrows(web):
                ways = shortest_ways(web, one, other)
                told = forcing_way(web, one, other)
                self.assertEqual(told, min(ways) if ways else None, (web, one, other))
                if ways:
                    self.assertIsInstance(told, list)
                    self.assertIs(shows_way(web, one, other, told), True)

    def test_all_small_webs(self):
        for web in small_webs():
            self.check(web)

    def test_rings_lines_and_groups(self):
        for web in SOME:
            self.check(web)
        self.check((6, tuple(tie for tie in full(6)[1] if tie not in ring(6)[1])))

    def test_samples(self):
        self.assertEqual(forcing_way(line(4), (0, 1), (2, 3)), [(0, 1), (2, 1), (2, 3)])
        self.assertIsNone(forcing_way(line(4), (0, 1), (3, 2)))
        self.assertEqual(forcing_way(ring(5), (0, 1), (1, 0)), [(0, 1), (0, 4), (3, 4), (3, 2), (1, 2), (1, 0)])
        self.assertIsNone(forcing_way(full(3), (0, 1), (0, 2)))
        self.assertIsNone(forcing_way(beside(line(2), line(2)), (0, 1), (2, 3)))

    def test_the_first_of_several(self):
        square = groups(2, 2)
        self.assertEqual(len(shortest_ways(square, (0, 2), (1, 3))), 2)
        self.assertEqual(forcing_way(square, (0, 2), (1, 3)), [(0, 2), (0, 3), (1, 3)])
        self.assertEqual(forcing_way(square, (1, 3), (0, 2)), [(1, 3), (0, 3), (0, 2)])
        self.assertEqual(forcing_way(square, (3, 1), (2, 0)), [(3, 1), (2, 1), (2, 0)])

    def test_an_arrow_and_itself(self):
        for web in five_webs():
            for arrow in all_arrows(web):
                self.assertEqual(forcing_way(web, arrow, arrow), [arrow])

    def test_none_where_the_classes_are_unlike(self):
        for web in twelve_webs():
            for one in all_arrows(web):
                members = class_of(web, one)
                for other in all_arrows(web)[::7]:
                    told = forcing_way(web, one, other)
                    self.assertIs(told is None, other not in members)
                    self.assertIs(told is None or shows_way(web, one, other, told), True)


if __name__ == "__main__":
    unittest.main()
