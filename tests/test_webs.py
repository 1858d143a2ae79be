import unittest
from itertools import combinations, permutations

from pointedties.webs import gaps_of, is_web, part_of, put_for, renumbered, tied
from tests.samples import full, odd_things, small_webs

PATH = (4, ((0, 1), (1, 2), (2, 3)))
PAIR = (2, ((0, 1),))
APART = (2, ())
TRIANGLE = (3, ((0, 1), (0, 2), (1, 2)))


class IsWebTest(unittest.TestCase):
    def no_web(self, *things):
        for thing in things:
            self.assertIs(is_web(thing), False, thing)

    def test_webs(self):
        for web in ((0, ()), (1, ()), APART, PAIR, PATH, TRIANGLE, full(12), full(30), (3, ((1, 2),))):
            self.assertIs(is_web(web), True, web)

    def test_all_small_webs(self):
        for web in small_webs():
            self.assertIs(is_web(web), True, web)

    def test_of_any_many(self):
        for web in ((13, ()), (10 ** 30, ()), (10 ** 30, ((0, 10 ** 30 - 1), (5, 10 ** 29)))):
            self.assertIs(is_web(web), True, web)

    def test_many_below_nought(self):
        self.no_web((-1, ()), (-3, ((0, 1),)), (-10 ** 30, ()))

    def test_lists_for_tuples(self):
        self.no_web([2, ((0, 1),)], (2, [(0, 1)]), (2, ([0, 1],)), [2, [[0, 1]]], (2, []), [2, ()])
        self.no_web((3, ((0, 1), [0, 2])), (3, ([0, 1], (0, 2))))

    def test_ties_out_of_order(self):
        self.no_web((3, ((0, 2), (0, 1))), (3, ((1, 2), (0, 1))), (4, ((0, 1), (2, 3), (1, 2))))

    def test_a_tie_twice(self):
        self.no_web((2, ((0, 1), (0, 1))), (3, ((0, 1), (1, 2), (1, 2))), (3, ((0, 1), (1, 2), (0, 1))))

    def test_the_greater_place_first(self):
        self.no_web((2, ((1, 0),)), (3, ((0, 1), (2, 1))), (3, ((0, 1), (1, 0))))

    def test_beyond_the_places(self):
        self.no_web((2, ((0, 2),)), (2, ((2, 3),)), (0, ((0, 1),)), (1, ((0, 1),)))
        self.no_web((2, ((-1, 0),)), (2, ((-1, 1),)), (2, ((-2, -1),)), (3, ((0, 1), (0, 3))))

    def test_a_place_with_itself(self):
        self.no_web((1, ((0, 0),)), (2, ((1, 1),)), (3, ((0, 1), (1, 1))))

    def test_ties_of_other_sizes(self):
        self.no_web((3, ((0, 1, 2),)), (3, ((0,),)), (3, ((),)), (3, ((0, 1), (1, 2, 2))), (3, (0, 1)), (3, 0))

    def test_true_and_false_are_no_numbers(self):
        self.no_web((True, ()), (False, ()), (2, ((False, True),)), (2, ((0, True),)), (2, ((False, 1),)))
        self.no_web((3, ((0, 1), (True, 2))))

    def test_none_and_texts_are_no_numbers(self):
        self.no_web((None, ()), ("2", ()), (2, ((None, 1),)), (2, ((0, None),)), (2, (("0", "1"),)), (2, ((0, "1"),)))
        self.no_web((2, ("01",)), (2, "01"), (2, ""), (2, None), (2, (None,)), (2, False), (2, (True,)))

    def test_fewer_or_more_parts(self):
        self.no_web((), (0,), (2,), (0, (), ()), (2, ((0, 1),), ()), (2, ((0, 1),), None), ((0, 1),))

    def test_things_of_any_other_kind(self):
        self.no_web(*odd_things())


class TiedTest(unittest.TestCase):
    def test_either_way_about(self):
        for web in small_webs():
            for a in range(web[0]):
                for b in range(web[0]):
                    self.assertIs(tied(web, a, b), (a, b) in web[1] or (b, a) in web[1])

    def test_samples(self):
        self.assertIs(tied(PATH, 1, 2), True)
        self.assertIs(tied(PATH, 2, 1), True)
        self.assertIs(tied(PATH, 0, 2), False)
        self.assertIs(tied(PATH, 2, 0), False)

    def test_a_place_and_itself(self):
        for place in range(4):
            self.assertIs(tied(full(4), place, place), False)


class GapsTest(unittest.TestCase):
    def test_without_ties_and_with_all(self):
        for many in (0, 1, 2, 5, 12, 23):
            self.assertEqual(gaps_of((many, ())), full(many))
            self.assertEqual(gaps_of(full(many)), (many, ()))

    def test_in_between(self):
        self.assertEqual(gaps_of(PATH), (4, ((0, 2), (0, 3), (1, 3))))
        self.assertEqual(gaps_of((3, ((0, 2),))), (3, ((0, 1), (1, 2))))

    def test_all_small_webs(self):
        for web in small_webs():
            gaps = gaps_of(web)
            self.assertIs(is_web(gaps), True)
            self.assertEqual(sorted(gaps[1] + web[1]), list(combinations(range(web[0]), 2)))
            self.assertEqual(gaps_of(gaps), web)


class PartTest(unittest.TestCase):
    def test_of_none_of_one_of_all(self):
        for web in small_webs():
            self.assertEqual(part_of(web, []), (0, ()))
            self.assertEqual(part_of(web, list(range(web[0]))), web)
            for place in range(web[0]):
                self.assertEqual(part_of(web, [place]), (1, ()))

    def test_of_some(self):
        self.assertEqual(part_of(PATH, [1, 2]), PAIR)
        self.assertEqual(part_of(PATH, [0, 3]), APART)
        self.assertEqual(part_of(PATH, [0, 2, 3]), (3, ((1, 2),)))
        self.assertEqual(part_of(PATH, [1, 2, 3]), (3, ((0, 1), (1, 2))))

    def test_all_small_webs(self):
        for web in small_webs():
            for size in range(web[0] + 1):
                for places in combinations(range(web[0]), size):
                    part = part_of(web, list(places))
                    self.assertIs(is_web(part), True)
                    self.assertEqual(part[0], size)
                    for a, b in combinations(range(size), 2):
                        self.assertEqual(tied(part, a, b), tied(web, places[a], places[b]))

    def test_places_are_not_changed_nor_kept(self):
        places = [0, 2, 3]
        part = part_of(PATH, places)
        self.assertEqual(places, [0, 2, 3])
        places[:] = [1, 2]
        self.assertEqual(part, (3, ((1, 2),)))
        self.assertEqual(part_of(PATH, [0, 2, 3]), part)


class RenumberedTest(unittest.TestCase):
    def test_samples(self):
        self.assertEqual(renumbered(PATH, [3, 2, 1, 0]), PATH)
        self.assertEqual(renumbered((3, ((0, 1),)), [2, 0, 1]), (3, ((0, 2),)))
        self.assertEqual(renumbered(PATH, [1, 3, 0, 2]), (4, ((0, 2), (0, 3), (1, 3))))
        self.assertEqual(renumbered((0, ()), []), (0, ()))

    def test_there_and_back(self):
        for web in small_webs():
            for numbers in permutations(range(web[0])):
                there = renumbered(web, list(numbers))
                self.assertIs(is_web(there), True)
                for a, b in combinations(range(web[0]), 2):
                    self.assertEqual(tied(there, numbers[a], numbers[b]), tied(web, a, b))
                back = [numbers.index(place) for place in range(web[0])]
                self.assertEqual(renumbered(there, back), web)

    def test_numbers_are_not_changed_nor_kept(self):
        numbers = [1, 3, 0, 2]
        told = renumbered(PATH, numbers)
        self.assertEqual(numbers, [1, 3, 0, 2])
        numbers.reverse()
        self.assertEqual(told, (4, ((0, 2), (0, 3), (1, 3))))


class PutForTest(unittest.TestCase):
    def test_at_the_first_place(self):
        self.assertEqual(put_for(PATH, 0, PAIR), (5, ((0, 1), (0, 2), (1, 2), (2, 3), (3, 4))))
        self.assertEqual(put_for(PAIR, 0, (3, ((0, 2),))), (4, ((0, 2), (0, 3), (1, 3), (2, 3))))

    def test_at_the_last_place(self):
        self.assertEqual(put_for(PATH, 3, PAIR), (5, ((0, 1), (1, 2), (2, 3), (2, 4), (3, 4))))
        self.assertEqual(put_for(PAIR, 1, APART), (3, ((0, 1), (0, 2))))

    def test_between(self):
        self.assertEqual(put_for(PATH, 1, APART), (5, ((0, 1), (0, 2), (1, 3), (2, 3), (3, 4))))
        self.assertEqual(
            put_for(PATH, 2, (3, ((1, 2),))),
            (6, ((0, 1), (1, 2), (1, 3), (1, 4), (2, 5), (3, 4), (3, 5), (4, 5))),
        )

    def test_other_of_one_place(self):
        for web in small_webs():
            for place in range(web[0]):
                self.assertEqual(put_for(web, place, (1, ())), web)

    def test_for_the_only_place(self):
        for web in small_webs():
            if web[0]:
                self.assertEqual(put_for((1, ()), 0, web), web)

    def test_all_small_webs(self):
        others = [web for web in small_webs() if 1 <= web[0] <= 3]
        for web in small_webs():
            for place in range(web[0]):
                for other in others:
                    self.check(web, place, other)

    def test_more_than_twelve_places(self):
        ring = (12, tuple(sorted([(k, k + 1) for k in range(11)] + [(0, 11)])))
        for place in (0, 5, 11):
            told = self.check(ring, place, full(12))
            self.assertEqual(told[0], 23)
            self.check(told, 12, ring)
        told = put_for(full(12), 3, full(12))
        self.assertEqual(told, full(23))
        self.assertEqual(gaps_of(told), (23, ()))
        self.assertEqual(part_of(told, list(range(10, 23))), full(13))
        self.assertEqual(renumbered(told, list(range(22, -1, -1))), told)
        self.assertIs(tied(told, 22, 3), True)

    def check(self, web, place, other):
        told = put_for(web, place, other)
        self.assertIs(is_web(told), True)
        self.assertEqual(told[0], web[0] + other[0] - 1)
        # Of which place of web each new one comes, and of which of other.
        origins = [(p, 0) for p in range(place)]
        origins += [(place, q) for q in range(other[0])]
        origins += [(p, 0) for p in range(place + 1, web[0])]
        for a, b in combinations(range(told[0]), 2):
            (p, q), (r, s) = origins[a], origins[b]
            wanted = tied(other, q, s) if p == r else tied(web, p, r)
            self.assertEqual(tied(told, a, b), wanted, (web, place, other, a, b))
        return told


class SameAnswerTest(unittest.TestCase):
    def test_asked_again(self):
        web = (4, ((0, 1), (1, 2), (2, 3)))
        other = (3, ((0, 2),))
        for _ in range(2):
            self.assertEqual(gaps_of(web), (4, ((0, 2), (0, 3), (1, 3))))
            self.assertEqual(part_of(web, [0, 2, 3]), (3, ((1, 2),)))
            self.assertEqual(renumbered(web, [1, 0, 2, 3]), (4, ((0, 1), (0, 2), (2, 3))))
            self.assertEqual(put_for(APART, 1, other), (4, ((1, 3),)))
        self.assertEqual(web, PATH)
        self.assertEqual(other, (3, ((0, 2),)))

    def test_what_is_handed_to_is_web_stays(self):
        thing = [2, [[0, 1]]]
        self.assertIs(is_web(thing), False)
        self.assertEqual(thing, [2, [[0, 1]]])


if __name__ == "__main__":
    unittest.main()
