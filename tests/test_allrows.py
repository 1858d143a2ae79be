import unittest
from math import factorial
from random import Random

from pointedties.allrows import count_rows, number_of_row, often_ahead, row_at
from pointedties.leading import pointed
from pointedties.pointings import by_row, row_by, turned_about
from tests.samples import (
    TWELVE_ROWS, all_rows, all_webs, beside, full, groups, led_by_words, line, ring, rows_by_words, small_webs, star,
    twelve_webs,
)


def row_without_ties(many, number):
    """The row of so many places with a number among all rows, by the factorials."""
    left = list(range(many))
    row = []
    while left:
        at, number = divmod(number, factorial(len(left) - 1))
        row.append(left.pop(at))
    return row


class RowsCase(unittest.TestCase):
    def check_rows(self, web, pointing, rows):
        """Counts, and tells all rows by their numbers; rows are all that there are, as they rise."""
        self.assertEqual(rows, sorted(rows))
        self.assertEqual(count_rows(web, pointing), len(rows), (web, pointing))
        told = [row_at(web, pointing, k) for k in range(len(rows))]
        self.assertEqual(told, rows, (web, pointing))
        self.assertTrue(all(isinstance(row, list) for row in told))
        for k in (len(rows), len(rows) + 1, 2 * len(rows), 10 ** 30):
            self.assertIsNone(row_at(web, pointing, k))
        self.assertEqual([number_of_row(web, pointing, row) for row in rows], list(range(len(rows))))

    def check_none(self, web, pointing, rows):
        """The other lists of all places are no rows."""
        for row in all_rows(web[0]):
            if row not in rows:
                self.assertIsNone(number_of_row(web, pointing, row), (web, pointing, row))

    def check_ahead(self, web, pointing, rows):
        for a in range(web[0]):
            for b in range(web[0]):
                if a != b:
                    wanted = sum(row.index(a) < row.index(b) for row in rows)
                    self.assertEqual(often_ahead(web, pointing, a, b), wanted, (web, pointing, a, b))

    def check(self, web, pointing):
        rows = rows_by_words(web, pointing)
        self.check_rows(web, pointing, rows)
        self.check_none(web, pointing, rows)
        self.check_ahead(web, pointing, rows)


class SmallTest(RowsCase):
    def test_all_led_pointings(self):
        for web in small_webs():
            for pointing in led_by_words(web):
                self.check(web, pointing)

    def test_five_places(self):
        for web in list(all_webs(5))[::23]:
            for pointing in led_by_words(web)[::5]:
                self.check(web, pointing)

    def test_six_places(self):
        webs = (line(6), ring(6), groups(2, 2, 2), star(6), beside(full(3), full(3)), beside(line(4), full(2)), full(6))
        for web in webs:
            first = pointed(web)[1]
            for pointing in (first, turned_about(first)):
                rows = rows_by_words(web, pointing)
                self.check_rows(web, pointing, rows)
                self.check_ahead(web, pointing, rows)

    def test_no_places(self):
        web = (0, ())
        self.assertEqual(count_rows(web, ()), 1)
        self.assertEqual(row_at(web, (), 0), [])
        self.assertIsNone(row_at(web, (), 1))
        self.assertEqual(number_of_row(web, (), []), 0)

    def test_one_place(self):
        web = (1, ())
        self.assertEqual(count_rows(web, ()), 1)
        self.assertEqual(row_at(web, (), 0), [0])
        self.assertIsNone(row_at(web, (), 1))
        self.assertEqual(number_of_row(web, (), [0]), 0)

    def test_samples(self):
        web, pointing = line(4), ((0, 1), (2, 1), (2, 3))
        rows = [[0, 2, 1, 3], [0, 2, 3, 1], [2, 0, 1, 3], [2, 0, 3, 1], [2, 3, 0, 1]]
        self.assertEqual(count_rows(web, pointing), 5)
        self.assertEqual([row_at(web, pointing, k) for k in range(6)], rows + [None])
        self.assertEqual(number_of_row(web, pointing, [2, 0, 3, 1]), 3)
        self.assertIsNone(number_of_row(web, pointing, [0, 1, 2, 3]))
        self.assertIsNone(number_of_row(web, pointing, [3, 2, 1, 0]))
        # A row that goes wrong at its last places alone.
        self.assertIsNone(number_of_row(full(4), full(4)[1], [0, 1, 3, 2]))
        self.assertEqual([often_ahead(web, pointing, 0, 1), often_ahead(web, pointing, 1, 0)], [5, 0])
        self.assertEqual([often_ahead(web, pointing, 0, 2), often_ahead(web, pointing, 2, 0)], [2, 3])
        self.assertEqual([often_ahead(web, pointing, 0, 3), often_ahead(web, pointing, 3, 0)], [4, 1])


class TwelvePlacesTest(RowsCase):
    def check_numbers(self, web, pointing, wanted=None):
        """Too many rows to be gone through: some of them, and their numbers."""
        many = count_rows(web, pointing)
        if wanted is not None:
            self.assertEqual(many, wanted, (web, pointing))
        self.assertEqual(row_at(web, pointing, 0), row_by(web, pointing))
        self.assertIsNone(row_at(web, pointing, many))
        chance = Random(many)
        numbers = sorted({0, many - 1} | {chance.randrange(many) for _ in range(12)})
        rows = [row_at(web, pointing, k) for k in numbers]
        self.assertEqual(rows, sorted(rows))
        for k, row in zip(numbers, rows):
            self.assertEqual(sorted(row), list(range(12)))
            self.assertEqual(by_row(web, row), pointing)
            self.assertEqual(number_of_row(web, pointing, row), k)
        for row in TWELVE_ROWS:
            told = number_of_row(web, pointing, row)
            if by_row(web, row) == pointing:
                self.assertEqual(row_at(web, pointing, told), row)
            else:
                self.assertIsNone(told)
        for a, b in ((0, 1), (3, 8), (11, 2), (5, 6)):
            ahead, behind = often_ahead(web, pointing, a, b), often_ahead(web, pointing, b, a)
            self.assertEqual(ahead + behind, many)
            if (a, b) in pointing or (b, a) in pointing:
                self.assertEqual(ahead, many if (a, b) in pointing else 0)

    def test_webs_of_twelve_places(self):
        for web in twelve_webs():
            first = pointed(web)[1]
            self.check_numbers(web, first)
            self.check_numbers(web, turned_about(first), count_rows(web, first))

    def test_no_ties(self):
        web, many = (12, ()), factorial(12)
        self.check_numbers(web, (), many)
        chance = Random(12)
        for k in [0, 1, 2, many - 2, many - 1] + [chance.randrange(many) for _ in range(20)]:
            self.assertEqual(row_at(web, (), k), row_without_ties(12, k))
            self.assertEqual(number_of_row(web, (), row_without_ties(12, k)), k)
        self.assertEqual(often_ahead(web, (), 4, 9), many // 2)

    def test_few_ties(self):
        for ties, share in ((((0, 1),), 2), (((5, 11),), 2), (((0, 1), (2, 3)), 4), (((0, 11), (1, 10), (2, 9)), 8)):
            web = (12, ties)
            self.check_numbers(web, ties, factorial(12) // share)
            self.check_numbers(web, turned_about(ties), factorial(12) // share)
            self.assertEqual(often_ahead(web, ties, ties[0][0], ties[0][1]), factorial(12) // share)
            self.assertEqual(often_ahead(web, ties, ties[0][1], ties[0][0]), 0)

    def test_known_counts(self):
        # Of a star the middle place stands ahead of all; three fours are mixed in any way; a line goes up and down.
        self.check_numbers(star(12), star(12)[1], factorial(11))
        fours = beside(full(4), full(4), full(4))
        self.check_numbers(fours, fours[1], factorial(12) // factorial(4) ** 3)
        self.check_numbers(line(12), pointed(line(12))[1], 2702765)
        self.check_numbers(groups(3, 4, 5), groups(3, 4, 5)[1], factorial(3) * factorial(4) * factorial(5))
        self.check_numbers(full(12), full(12)[1], 1)

    def test_often_ahead_of_a_star(self):
        web = star(12)
        self.assertEqual(often_ahead(web, web[1], 0, 7), factorial(11))
        self.assertEqual(often_ahead(web, web[1], 7, 0), 0)
        self.assertEqual(often_ahead(web, web[1], 7, 3), factorial(11) // 2)


if __name__ == "__main__":
    unittest.main()
