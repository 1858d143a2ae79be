import unittest
from itertools import combinations

from pointedties.forcings import bundles
from pointedties.modules import is_module, least_module, parts_of, places_in, shape_of
from pointedties.webs import gaps_of, part_of, put_for, renumbered, tied
from tests.samples import (
    all_webs, barred_webs, beside, five_webs, full, groups, line, nodes_of, odd_things, place, ring, rising_lists,
    small_webs, twelve_webs,
)


def is_module_by_words(web, everything, places):
    """Whether places are a module where there are no other places than everything."""
    if not places:
        return False
    outer = [p for p in everything if p not in places]
    return all(len({tied(web, p, q) for q in places}) == 1 for p in outer)


def sets_joined(join, places):
    """The sets of places that are joined, by their least places."""
    sets, left = [], list(places)
    while left:
        found = [left.pop(0)]
        for one in found:
            found += [other for other in left if join(one, other)]
            left = [other for other in left if other not in found]
        sets.append(sorted(found))
    return sets


def tree_by_words(web, places):
    if len(places) == 1:
        return place(places[0])
    apart = sets_joined(lambda a, b: tied(web, a, b), places)
    if len(apart) > 1:
        return ("apart", tuple(tree_by_words(web, part) for part in apart))
    whole = sets_joined(lambda a, b: not tied(web, a, b), places)
    if len(whole) > 1:
        return ("all", tuple(tree_by_words(web, part) for part in whole))
    modules = [part for part in rising_lists(places) if part != places and is_module_by_words(web, places, part)]
    greatest = [part for part in modules if not any(set(part) < set(other) for other in modules)]
    return ("close", tuple(tree_by_words(web, part) for part in sorted(greatest)))


def bundles_by_parts(web, tree):
    """The bundles that a tree of parts has, by the words of point [9]."""
    found = []
    for kind, parts in nodes_of(tree):
        if kind in ("all", "close"):
            pairs = list(combinations([places_in(part) for part in parts], 2))
            between = [[(min(a, b), max(a, b)) for a in one for b in other if tied(web, a, b)] for one, other in pairs]
            found += between if kind == "all" else [[tie for ties in between for tie in ties]]
    return sorted(sorted(ties) for ties in found)


class IsModuleTest(unittest.TestCase):
    def test_by_words(self):
        for web in five_webs():
            everything = list(range(web[0]))
            for places in rising_lists(everything):
                self.assertIs(is_module(web, places), is_module_by_words(web, everything, places), (web, places))

    def test_samples(self):
        self.assertIs(is_module(line(4), [0, 1, 2, 3]), True)
        self.assertIs(is_module(line(4), [2]), True)
        self.assertIs(is_module(line(4), [0, 2]), False)
        self.assertIs(is_module(line(3), [0, 2]), True)
        self.assertIs(is_module(groups(2, 3), [2, 4]), True)
        self.assertIs(is_module(groups(2, 3), [0, 2]), False)
        self.assertIs(is_module(full(12), [1, 5, 8]), True)
        self.assertIs(is_module((12, ()), [0, 11]), True)
        self.assertIs(is_module(ring(12), [0, 1]), False)

    def test_no_places(self):
        for web in small_webs():
            self.assertIs(is_module(web, []), False)

    def test_what_is_no_rising_list_of_places(self):
        web = (3, ())
        for thing in (
            (0,), (0, 1), [1, 0], [0, 0], [0, 1, 1], [3], [0, 3], [-1], [-1, 0], [True], [False, 1], [0, True], ["0"],
            "0", [None], None, True, 1, [[0]], [(0,)], [0, [1]], [0, None], [0, "1"], [10 ** 30],
        ):
            self.assertIs(is_module(web, thing), False, thing)
        for thing in odd_things():
            self.assertIs(is_module(web, thing), thing == [1] and thing[0] is not True, thing)
            self.assertIs(is_module(web, [0, thing]), thing in (1, 2) and thing is not True, thing)


class LeastModuleTest(unittest.TestCase):
    def check(self, web):
        everything = list(range(web[0]))
        modules = [part for part in rising_lists(everything) if is_module_by_words(web, everything, part)]
        for places in list(rising_lists(everything))[1:]:
            having = [part for part in modules if set(places) <= set(part)]
            told = least_module(web, places)
            self.assertIsInstance(told, list)
            self.assertEqual(told, having[0], (web, places))
            # The least one is in each other one.
            self.assertTrue(all(set(told) <= set(part) for part in having))

    def test_by_words(self):
        for web in five_webs():
            self.check(web)

    def test_some_of_six_and_seven(self):
        for web in (line(6), ring(6), groups(1, 2, 3), put_for(line(4), 1, line(4)), put_for(full(3), 0, ring(5))):
            self.check(web)

    def test_samples(self):
        self.assertEqual(least_module(line(4), [0, 1]), [0, 1, 2, 3])
        self.assertEqual(least_module(line(4), [3]), [3])
        self.assertEqual(least_module(line(3), [0, 2]), [0, 2])
        self.assertEqual(least_module(beside(line(3), line(3)), [0, 1]), [0, 1, 2])
        self.assertEqual(least_module(beside(line(3), line(3)), [0, 4]), [0, 1, 2, 3, 4, 5])
        self.assertEqual(least_module(groups(2, 3), [0, 1]), [0, 1])

    def test_twelve_places(self):
        self.assertEqual(least_module(ring(12), [4, 5]), list(range(12)))
        self.assertEqual(least_module(full(12), [3, 9]), [3, 9])
        self.assertEqual(least_module(line(12), [0, 2]), list(range(12)))
        self.assertEqual(least_module(groups(3, 4, 5), [2, 3]), list(range(7)))
        web = put_for(line(4), 2, line(9))
        self.assertEqual(least_module(web, [2, 3]), list(range(2, 11)))
        self.assertEqual(least_module(web, [0, 5]), list(range(12)))


class PartsTest(unittest.TestCase):
    def check(self, web):
        tree = parts_of(web)
        self.assertEqual(tree, tree_by_words(web, list(range(web[0]))), web)
        self.check_bundles(web, tree)

    def check_bundles(self, web, tree):
        """What point [9] says of the bundles."""
        self.assertEqual(bundles(web), bundles_by_parts(web, tree), web)

    def test_by_words(self):
        for web in five_webs():
            if web[0]:
                self.check(web)

    def test_six_places(self):
        for at, web in enumerate(all_webs(6)):
            if at % 29 == 0:
                self.check(web)

    def test_of_no_places_and_of_one(self):
        self.assertIsNone(parts_of((0, ())))
        self.assertEqual(parts_of((1, ())), place(0))

    def test_each_kind(self):
        self.assertEqual(parts_of((2, ())), ("apart", (place(0), place(1))))
        self.assertEqual(parts_of(line(2)), ("all", (place(0), place(1))))
        self.assertEqual(parts_of(line(4)), ("close", (place(0), place(1), place(2), place(3))))
        self.assertEqual(parts_of((12, ())), ("apart", tuple(place(p) for p in range(12))))
        self.assertEqual(parts_of(full(12)), ("all", tuple(place(p) for p in range(12))))
        self.assertEqual(parts_of(line(12)), ("close", tuple(place(p) for p in range(12))))
        self.assertEqual(parts_of(ring(12)), ("close", tuple(place(p) for p in range(12))))

    def test_nodes_within_nodes(self):
        self.assertEqual(parts_of(line(3)), ("all", (("apart", (place(0), place(2))), place(1))))
        self.assertEqual(parts_of((3, ((0, 2),))), ("apart", (("all", (place(0), place(2))), place(1))))
        inner = ("close", (place(1), place(2), place(3), place(4)))
        self.assertEqual(
            parts_of(put_for(line(4), 1, line(4))), ("close", (place(0), inner, place(5), place(6))),
        )
        ring_tree = ("close", tuple(place(p) for p in range(5)))
        self.assertEqual(parts_of(beside(ring(5), full(2))), ("apart", (ring_tree, ("all", (place(5), place(6))))))

    def test_deep_trees(self):
        # Each place is tied to all or to none of those behind it, by turns.
        web = (12, tuple((a, b) for a, b in full(12)[1] if a % 2 == 0))
        wanted = place(11)
        for first in range(10, -1, -1):
            wanted = ("all" if first % 2 == 0 else "apart", (place(first), wanted))
        self.assertEqual(parts_of(web), wanted)

    def test_by_their_least_places(self):
        web = renumbered(put_for(line(4), 0, (3, ((0, 1),))), [5, 2, 3, 4, 0, 1])
        for kind, parts in nodes_of(parts_of(web)):
            if kind != "place":
                leasts = [min(places_in(part)) for part in parts]
                self.assertEqual(leasts, sorted(leasts))
        self.check(web)

    def test_twelve_places(self):
        for web in list(twelve_webs()) + list(barred_webs()):
            for one in (web, gaps_of(web)):
                tree = parts_of(one)
                self.assertEqual(places_in(tree), list(range(one[0])))
                self.check_bundles(one, tree)
                for node in nodes_of(tree):
                    self.assertIs(is_module(one, places_in(node)), True)
                    self.check_close(one, node)

    def check_close(self, web, node):
        """The shape of a close node has no modules but single places and all: its parts are the greatest ones."""
        if node[0] == "close":
            shape = shape_of(web, node)
            self.assertGreaterEqual(shape[0], 4)
            for a, b in combinations(range(shape[0]), 2):
                self.assertEqual(least_module(shape, [a, b]), list(range(shape[0])))

    def test_gaps_exchange_apart_and_all(self):
        other = {"apart": "all", "all": "apart", "close": "close"}

        def exchanged(tree):
            if tree[0] == "place":
                return tree
            return (other[tree[0]], tuple(exchanged(part) for part in tree[1]))

        for web in list(five_webs()) + list(twelve_webs()):
            if web[0]:
                self.assertEqual(parts_of(gaps_of(web)), exchanged(parts_of(web)))


class PlacesAndShapeTest(unittest.TestCase):
    def test_places_in(self):
        self.assertEqual(places_in(place(7)), [7])
        self.assertEqual(places_in(("all", (("apart", (place(0), place(2))), place(1)))), [0, 1, 2])
        for web in five_webs():
            if web[0]:
                tree = parts_of(web)
                self.assertEqual(places_in(tree), list(range(web[0])))
                for node in nodes_of(tree):
                    told = places_in(node)
                    self.assertIsInstance(told, list)
                    self.assertEqual(told, sorted(part[1] for part in nodes_of(node) if part[0] == "place"))

    def test_shape_of(self):
        for web in five_webs():
            for node in nodes_of(parts_of(web)) if web[0] else ():
                if node[0] != "place":
                    leasts = [min(places_in(part)) for part in node[1]]
                    self.assertEqual(shape_of(web, node), part_of(web, leasts))
                    if node[0] == "all":
                        self.assertEqual(shape_of(web, node), full(len(node[1])))
                    if node[0] == "apart":
                        self.assertEqual(shape_of(web, node), (len(node[1]), ()))

    def test_shape_samples(self):
        web = put_for(line(4), 1, line(4))
        tree = parts_of(web)
        self.assertEqual(shape_of(web, tree), line(4))
        self.assertEqual(shape_of(web, tree[1][1]), line(4))
        web = beside(full(2), ring(5))
        self.assertEqual(shape_of(web, parts_of(web)), (2, ()))
        self.assertEqual(shape_of(web, parts_of(web)[1][1]), ring(5))


if __name__ == "__main__":
    unittest.main()
