import unittest
from itertools import combinations, product

from pointedties.leading import can_be_pointed
from pointedties.pointings import is_led, is_pointing
from pointedties.rows import crossed_pointing, crossed_web, crossings
from pointedties.webs import gaps_of, is_web
from tests.samples import TWELVE_ROWS, all_rows, full


def row_pairs():
    """Each two rows of up to four places, some of five and six, and of twelve."""
    for many in range(5):
        yield from product(all_rows(many), repeat=2)
    for many, step in ((5, 137), (6, 4999)):
        yield from list(product(all_rows(many), repeat=2))[::step]
    yield from product(TWELVE_ROWS, repeat=2)


def ahead(row, a, b):
    return row.index(a) < row.index(b)


def shortest_crossings(one, other):
    """All shortest lists of exchanges of neighbours from one row to another one, gone through step by step."""
    lists = {tuple(one): [[]]}
    while tuple(other) not in lists:
        later = {}
        for row, ways in lists.items():
            for at in range(len(row) - 1):
                tie = (min(row[at:at + 2]), max(row[at:at + 2]))
                turned = row[:at] + (row[at + 1], row[at]) + row[at + 2:]
                later.setdefault(turned, []).extend(way + [tie] for way in ways)
        lists = later
    return lists[tuple(other)]


class CrossedTest(unittest.TestCase):
    def check(self, one, other):
        many = len(one)
        ties = [(a, b) for a, b in combinations(range(many), 2) if ahead(one, a, b) != ahead(other, a, b)]
        web = crossed_web(list(one), list(other))
        self.assertEqual(web, (many, tuple(ties)), (one, other))
        self.assertIs(is_web(web), True)
        pointing = crossed_pointing(list(one), list(other))
        self.assertIs(is_pointing(web, pointing), True)
        self.assertIs(is_led(web, pointing), True)
        self.assertTrue(all(ahead(one, a, b) and ahead(other, b, a) for a, b in pointing), (one, other))

    def test_each_two_places_of_two_rows(self):
        for one, other in row_pairs():
            self.check(one, other)

    def test_both_ways(self):
        for one, other in row_pairs():
            web = crossed_web(one, other)
            self.assertEqual(crossed_web(other, one), web)
            self.assertEqual(crossed_pointing(other, one), tuple((b, a) for a, b in crossed_pointing(one, other)))
            self.assertEqual(crossed_web(one, other[::-1]), gaps_of(web))
            self.assertTrue(can_be_pointed(web))

    def test_a_row_with_itself(self):
        for row in all_rows(4) + list(TWELVE_ROWS):
            self.assertEqual(crossed_web(row, row), (len(row), ()))
            self.assertEqual(crossed_pointing(row, row), ())
            self.assertEqual(crossed_web(row, list(row)), (len(row), ()))

    def test_a_row_with_itself_turned_about(self):
        for row in all_rows(4) + list(TWELVE_ROWS):
            self.assertEqual(crossed_web(row, row[::-1]), full(len(row)))
            self.check(row, row[::-1])

    def test_no_places_and_one(self):
        self.assertEqual((crossed_web([], []), crossed_pointing([], [])), ((0, ()), ()))
        self.assertEqual((crossed_web([0], [0]), crossed_pointing([0], [0])), ((1, ()), ()))

    def test_samples(self):
        self.assertEqual(crossed_web([0, 2, 1, 3], [2, 3, 0, 1]), (4, ((0, 2), (0, 3), (1, 3))))
        self.assertEqual(crossed_pointing([0, 2, 1, 3], [2, 3, 0, 1]), ((0, 2), (0, 3), (1, 3)))
        self.assertEqual(crossed_pointing([2, 3, 0, 1], [0, 2, 1, 3]), ((2, 0), (3, 0), (3, 1)))


class CrossingsTest(unittest.TestCase):
    def check(self, one, other):
        told = crossings(list(one), list(other))
        self.assertIsInstance(told, list)
        row = list(one)
        for a, b in told:
            self.assertLess(a, b)
            at = min(row.index(a), row.index(b))
            self.assertEqual({a, b}, set(row[at:at + 2]), (one, other, told))
            row[at], row[at + 1] = row[at + 1], row[at]
        self.assertEqual(row, list(other), (one, told))
        # Each tie of crossed_web once.
        self.assertEqual(tuple(sorted(told)), crossed_web(list(one), list(other))[1])
        return told

    def test_walked_one_by_one(self):
        for one, other in row_pairs():
            self.check(one, other)

    def test_all_lists_of_exchanges(self):
        for many in range(5):
            rows = all_rows(many)
            for one, other in product(rows if many < 4 else rows[::5], rows):
                self.assertEqual(self.check(one, other), min(shortest_crossings(one, other)), (one, other))

    def test_some_rows_of_five(self):
        rows = [row for row in all_rows(5) if len(crossed_web(list(range(5)), row)[1]) <= 6]
        for row in rows[::7]:
            self.assertEqual(self.check(list(range(5)), row), min(shortest_crossings(list(range(5)), row)))
            self.assertEqual(self.check(row, list(range(5))), min(shortest_crossings(row, list(range(5)))))

    def test_no_exchange(self):
        for row in ([], [0]) + TWELVE_ROWS:
            self.assertEqual(crossings(row, row), [])
            self.assertEqual(crossings(row, list(row)), [])

    def test_samples(self):
        self.assertEqual(crossings([0, 1], [1, 0]), [(0, 1)])
        self.assertEqual(crossings([1, 0], [0, 1]), [(0, 1)])
        self.assertEqual(crossings([0, 1, 2], [2, 1, 0]), [(0, 1), (0, 2), (1, 2)])
        self.assertEqual(crossings([2, 0, 1], [1, 0, 2]), [(0, 1), (1, 2), (0, 2)])
        self.assertEqual(crossings([0, 1, 3, 2], [1, 0, 2, 3]), [(0, 1), (2, 3)])
        self.assertEqual(crossings([3, 2, 0, 1], [2, 3, 1, 0]), [(0, 1), (2, 3)])

    def test_twelve_places_turned_about(self):
        told = self.check(list(range(12)), list(range(11, -1, -1)))
        self.assertEqual(len(told), 66)
        self.assertEqual(told, sorted(told))
        self.assertEqual(told[:3], [(0, 1), (0, 2), (0, 3)])


if __name__ == "__main__":
    unittest.main()
