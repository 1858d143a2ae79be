import unittest

from pointedties.errors import BadRow, Barred, Full, NoPlace, NoTie, Tied, TieError


class ErrorsTest(unittest.TestCase):
    def test_tie_error_is_a_value_error(self):
        self.assertEqual(TieError.__bases__, (ValueError,))

    def test_all_stand_straight_under_tie_error(self):
        for kind in (NoPlace, Tied, NoTie, Full, Barred, BadRow):
            self.assertEqual(kind.__bases__, (TieError,), kind)

    def test_names(self):
        kinds = (TieError, NoPlace, Tied, NoTie, Full, Barred, BadRow)
        names = ["TieError", "NoPlace", "Tied", "NoTie", "Full", "Barred", "BadRow"]
        self.assertEqual([kind.__name__ for kind in kinds], names)

    def test_made_with_words(self):
        for kind in (TieError, NoPlace, Tied, NoTie, Full):
            with self.assertRaises(kind) as caught:
                raise kind("some words")
            self.assertEqual(str(caught.exception), "some words")

    def test_barred_has_its_ring(self):
        with self.assertRaises(Barred) as caught:
            raise Barred([(0, 1), (2, 1), (1, 0)])
        self.assertEqual(caught.exception.ring, [(0, 1), (2, 1), (1, 0)])
        self.assertIsInstance(caught.exception.ring, list)
        self.assertEqual(Barred([]).ring, [])

    def test_barred_keeps_nothing_that_it_is_handed(self):
        ring = [(0, 1), (1, 0)]
        error = Barred(ring)
        ring.append((5, 6))
        self.assertEqual(error.ring, [(0, 1), (1, 0)])
        self.assertNotIn((5, 6), [arrow for arg in error.args for arrow in arg])

    def test_barred_changes_nothing_that_it_is_handed(self):
        ring = [(0, 1), (1, 0)]
        error = Barred(ring)
        other = Barred(ring)
        error.ring.append((5, 6))
        self.assertEqual(ring, [(0, 1), (1, 0)])
        self.assertEqual(other.ring, [(0, 1), (1, 0)])

    def test_bad_row_has_its_row(self):
        for row in (0, 1, 60):
            with self.assertRaises(BadRow) as caught:
                raise BadRow(row)
            self.assertEqual(caught.exception.row, row)
            self.assertIsInstance(caught.exception.row, int)


if __name__ == "__main__":
    unittest.main()
