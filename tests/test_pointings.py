import unittest
from itertools import permutations

from pointedties.pointings import by_row, first_break, is_led, is_pointing, row_by, turned_about
from tests.samples import all_pointings, odd_things, rows_by_words, small_webs

PATH = (4, ((0, 1), (1, 2), (2, 3)))
PAIR = (2, ((0, 1),))
TRIANGLE = (3, ((0, 1), (0, 2), (1, 2)))
RING = (5, ((0, 1), (0, 4), (1, 2), (2, 3), (3, 4)))


def breaks(web, pointing):
    """All breaks, gone through place by place."""
    places = range(web[0])
    return [
        (a, b, c) for a in places for b in places for c in places
        if (a, b) in pointing and (b, c) in pointing and (a, c) not in pointing
    ]


class IsPointingTest(unittest.TestCase):
    def no_pointing(self, web, *things):
        for thing in things:
            self.assertIs(is_pointing(web, thing), False, thing)

    def test_either_way(self):
        for web in small_webs():
            for pointing in all_pointings(web):
                self.assertIs(is_pointing(web, pointing), True, (web, pointing))

    def test_without_ties(self):
        for many in (0, 1, 2, 12):
            self.assertIs(is_pointing((many, ()), ()), True)
            self.no_pointing((many, ()), [], "", None, False, 0, ((),), ((0, 1),), (None,))

    def test_lists_for_tuples(self):
        self.no_pointing(PAIR, [(0, 1)], ([0, 1],), [[0, 1]])
        self.no_pointing(PATH, [(0, 1), (1, 2), (2, 3)], ((0, 1), [1, 2], (2, 3)))

    def test_out_of_order(self):
        self.no_pointing(PATH, ((1, 2), (0, 1), (2, 3)), ((0, 1), (3, 2), (1, 2)))
        # Rising arrows are not enough where the ties stand otherwise.
        self.no_pointing((3, ((0, 2), (1, 2))), ((1, 2), (2, 0)))

    def test_twice_or_left_out(self):
        self.no_pointing(PATH, ((0, 1), (1, 2)), ((1, 2), (2, 3)), ((0, 1), (2, 3)), (), ((0, 1),))
        self.no_pointing(PATH, ((0, 1), (0, 1), (1, 2), (2, 3)), ((0, 1), (1, 0), (1, 2), (2, 3)))
        self.no_pointing(PATH, ((0, 1), (1, 2), (2, 3), (2, 3)), ((0, 1), (1, 2), (1, 2)), ((0, 1), (1, 0), (2, 3)))

    def test_of_no_tie(self):
        self.no_pointing(PATH, ((0, 1), (1, 3), (2, 3)), ((0, 2), (1, 2), (2, 3)), ((0, 0), (1, 2), (2, 3)))
        self.no_pointing(PATH, ((0, 1), (1, 2), (2, 3), (0, 3)), ((0, 1), (1, 2), (3, 4)), ((0, -1), (1, 2), (2, 3)))

    def test_of_other_sizes(self):
        self.no_pointing(PAIR, ((0, 1, 2),), ((0, 1, 1),), ((0,),), ((),), (0, 1), (0,), (1, 0))

    def test_no_numbers(self):
        self.no_pointing(PAIR, ((False, True),), ((0, True),), ((False, 1),), ((True, 0),), ((1, False),))
        self.no_pointing(PAIR, ((None, 1),), ((0, None),), (("0", "1"),), ((0, "1"),), ("01",), "01", (None,), (True,))

    def test_things_of_any_other_kind(self):
        for web in (PAIR, TRIANGLE, PATH):
            self.no_pointing(web, *odd_things())

    def test_a_web_is_none(self):
        self.no_pointing(PAIR, PAIR)
        self.no_pointing((3, ((0, 1), (1, 2))), (3, ((0, 1), (1, 2))))

    def test_what_is_handed_in_stays(self):
        thing = [[0, 1]]
        self.assertIs(is_pointing(PAIR, thing), False)
        self.assertEqual(thing, [[0, 1]])


class LedTest(unittest.TestCase):
    def test_led_ones(self):
        for web, pointing in (
            ((0, ()), ()), ((1, ()), ()), ((12, ()), ()), (PAIR, ((0, 1),)), (PAIR, ((1, 0),)),
            (PATH, ((0, 1), (2, 1), (2, 3))), (PATH, ((1, 0), (1, 2), (3, 2))),
            (TRIANGLE, ((0, 1), (0, 2), (1, 2))), (TRIANGLE, ((1, 0), (0, 2), (1, 2))),
        ):
            self.assertIs(is_led(web, pointing), True)
            self.assertIsNone(first_break(web, pointing))

    def test_others(self):
        for web, pointing, told in (
            (PATH, ((0, 1), (1, 2), (2, 3)), (0, 1, 2)),
            (PATH, ((0, 1), (2, 1), (3, 2)), (3, 2, 1)),
            (TRIANGLE, ((0, 1), (2, 0), (1, 2)), (0, 1, 2)),
            (TRIANGLE, ((1, 0), (0, 2), (2, 1)), (0, 2, 1)),
            (RING, ((0, 1), (4, 0), (2, 1), (2, 3), (4, 3)), (4, 0, 1)),
            (RING, ((1, 0), (4, 0), (1, 2), (3, 2), (4, 3)), (4, 3, 2)),
        ):
            self.assertIs(is_led(web, pointing), False)
            self.assertEqual(first_break(web, pointing), told)

    def test_the_least_of_several(self):
        # The arrows of the least break don't stand first in the pointing.
        self.assertEqual(first_break((4, ((0, 1), (0, 3), (1, 2), (2, 3))), ((1, 0), (0, 3), (1, 2), (2, 3))), (1, 0, 3))
        star = (5, ((0, 4), (1, 4), (2, 4), (3, 4)))
        self.assertEqual(first_break(star, ((4, 0), (4, 1), (2, 4), (3, 4))), (2, 4, 0))

    def test_all_small_webs(self):
        for web in small_webs():
            for pointing in all_pointings(web):
                found = breaks(web, pointing)
                self.assertEqual(first_break(web, pointing), min(found) if found else None)
                self.assertIs(is_led(web, pointing), not found)

    def test_rings(self):
        for pointing in all_pointings(RING):
            self.assertEqual(first_break(RING, pointing), min(breaks(RING, pointing)))
            self.assertIs(is_led(RING, pointing), False)

    def test_what_is_no_pointing_is_not_led(self):
        for thing in ([(0, 1)], ([0, 1],), ((0, True),), ((False, 1),), (), ((0, 1), (0, 1)), ((0, 2),), ((0, 0),)):
            self.assertIs(is_led(PAIR, thing), False, thing)
        for thing in odd_things():
            for web in (PAIR, TRIANGLE, PATH):
                self.assertIs(is_led(web, thing), False, thing)

    def test_twelve_places(self):
        ties = tuple((a, b) for a in range(12) for b in range(a + 1, 12))
        self.assertIs(is_led((12, ties), ties), True)
        turned = tuple((11, 0) if tie == (0, 11) else tie for tie in ties)
        self.assertEqual(first_break((12, ties), turned), (0, 1, 11))


class TurnedAboutTest(unittest.TestCase):
    def test_samples(self):
        self.assertEqual(turned_about(()), ())
        self.assertEqual(turned_about(((0, 1), (2, 1), (2, 3))), ((1, 0), (1, 2), (3, 2)))

    def test_twice_is_the_first_one(self):
        for web in small_webs():
            for pointing in all_pointings(web):
                turned = turned_about(pointing)
                self.assertIs(is_pointing(web, turned), True)
                self.assertFalse(set(turned) & set(pointing))
                self.assertEqual(turned_about(turned), pointing)
                self.assertEqual(is_led(web, turned), is_led(web, pointing))


class ByRowTest(unittest.TestCase):
    def test_samples(self):
        self.assertEqual(by_row((0, ()), []), ())
        self.assertEqual(by_row(PATH, [0, 1, 2, 3]), ((0, 1), (1, 2), (2, 3)))
        self.assertEqual(by_row(PATH, [2, 0, 3, 1]), ((0, 1), (2, 1), (2, 3)))
        self.assertEqual(by_row(TRIANGLE, [1, 2, 0]), ((1, 0), (2, 0), (1, 2)))

    def test_all_small_webs(self):
        for web in small_webs():
            for row in permutations(range(web[0])):
                pointing = by_row(web, list(row))
                self.assertIs(is_pointing(web, pointing), True)
                self.assertTrue(all(row.index(a) < row.index(b) for a, b in pointing))

    def test_the_row_is_not_changed_nor_kept(self):
        row = [2, 0, 3, 1]
        told = by_row(PATH, row)
        self.assertEqual(row, [2, 0, 3, 1])
        row.reverse()
        self.assertEqual(told, ((0, 1), (2, 1), (2, 3)))
        self.assertEqual(by_row(PATH, row), ((1, 0), (1, 2), (3, 2)))


class RowByTest(unittest.TestCase):
    def test_samples(self):
        self.assertEqual(row_by((0, ()), ()), [])
        self.assertEqual(row_by((1, ()), ()), [0])
        self.assertEqual(row_by((4, ()), ()), [0, 1, 2, 3])
        self.assertEqual(row_by(PAIR, ((1, 0),)), [1, 0])
        self.assertEqual(row_by(TRIANGLE, ((1, 0), (2, 0), (2, 1))), [2, 1, 0])

    def test_the_first_of_several(self):
        self.assertEqual(row_by(PATH, ((0, 1), (2, 1), (2, 3))), [0, 2, 1, 3])
        self.assertEqual(row_by(PATH, ((1, 0), (1, 2), (3, 2))), [1, 0, 3, 2])
        # A place that comes free late still stands ahead of greater ones.
        self.assertEqual(row_by((4, ((0, 2),)), ((2, 0),)), [1, 2, 0, 3])

    def test_all_small_webs(self):
        for web in small_webs():
            for pointing in all_pointings(web):
                if not breaks(web, pointing):
                    self.assertEqual(row_by(web, pointing), min(rows_by_words(web, pointing)))

    def test_there_and_back(self):
        for web in small_webs():
            for pointing in all_pointings(web):
                if not breaks(web, pointing):
                    self.assertEqual(by_row(web, row_by(web, pointing)), pointing)

    def test_twelve_places(self):
        ties = tuple((a, b) for a in range(12) for b in range(a + 1, 12))
        self.assertEqual(row_by((12, ties), ties), list(range(12)))
        self.assertEqual(row_by((12, ties), turned_about(ties)), list(range(11, -1, -1)))

    def test_what_is_told_is_the_askers_own(self):
        pointing = ((0, 1), (2, 1), (2, 3))
        for _ in range(2):
            told = row_by(PATH, pointing)
            self.assertEqual(told, [0, 2, 1, 3])
            self.assertIsInstance(told, list)
            told.clear()
        empty = row_by((0, ()), ())
        empty.append(7)
        self.assertEqual(row_by((0, ()), ()), [])


if __name__ == "__main__":
    unittest.main()
