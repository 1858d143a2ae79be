"""Point [1]: what is promised of the whole, each by the words of the document, on small webs."""

import unittest
from itertools import product
from random import Random

from pointedties.allrows import count_rows, number_of_row, row_at
from pointedties.errors import Barred, NoTie, Tied
from pointedties.forcings import bundles, classes, forcing_way
from pointedties.kept import Kept
from pointedties.leading import can_be_pointed, extended, pointed, settled
from pointedties.ordercheck import shows_longest, shows_widest
from pointedties.orders import longest_chain, lots_by, widest
from pointedties.rows import crossed_pointing, crossed_web
from pointedties.sheet import run
from pointedties.turncheck import shows_turns
from pointedties.turning import many_turns, turns, with_turn
from pointedties.tworows import shows_rows, two_rows
from pointedties.waycheck import shows_round, shows_way
from pointedties.ways import all_ways, count_ways
from pointedties.webfew import fewest_groups, greatest_tied, greatest_untied
from pointedties.webs import gaps_of
from pointedties.weighcheck import shows_weighed
from pointedties.weighed import heaviest_chain, weighed_lots
from tests.samples import (
    all_arrows, all_rows, all_webs, barred_webs, five_webs, force_by_words, is_led_by_words, joined_by_words,
    led_by_words, rising_lists, rows_by_words, small_webs, tied_sets, turned,
)


def walks_round(web, ring):
    """Whether a list of arrows is a round, by the words of the document."""
    if not ring or any(arrow not in all_arrows(web) for arrow in ring) or ring[-1] != turned(ring[0]):
        return False
    return all(force_by_words(web, one, later) for one, later in zip(ring, ring[1:]))


def untied_sets(web):
    return tied_sets(gaps_of(web))


def steps_by_words(web, one):
    """For each led pointing the fewest turns of bundles to it from one, each leaving a led one."""
    steps = {one: 0}
    newest = [one]
    while newest:
        found = []
        for pointing in newest:
            for bundle in bundles(web):
                other = tuple(turned(arrow) if tie in bundle else arrow for tie, arrow in zip(web[1], pointing))
                if is_led_by_words(other) and other not in steps:
                    steps[other] = steps[pointing] + 1
                    found.append(other)
        newest = found
    return steps


class PointedTest(unittest.TestCase):
    def test_the_first_led_pointing_or_a_round(self):
        kinds = set()
        for web in five_webs():
            ways = led_by_words(web)
            kind, found = pointed(web)
            kinds.add(kind)
            self.assertEqual(kind, "led" if ways else "barred", web)
            if ways:
                self.assertEqual(found, ways[0], web)
                self.assertTrue(is_led_by_words(found))
            else:
                self.assertTrue(walks_round(web, found), web)
                self.assertIs(shows_round(web, found), True)
        self.assertEqual(kinds, {"led", "barred"})

    def test_rounds_of_greater_webs(self):
        for web in barred_webs():
            kind, found = pointed(web)
            self.assertEqual(kind, "barred")
            self.assertTrue(walks_round(web, found), web)
            self.assertIs(shows_round(web, found), True)


class SettledTest(unittest.TestCase):
    def test_classes_are_just_what_forcings_join(self):
        for web in five_webs():
            told = classes(web)
            self.assertEqual([tuple(members) for members in told], joined_by_words(web), web)

    def test_ways_lead_within_classes_alone(self):
        for web in small_webs():
            class_at = {arrow: members for members in joined_by_words(web) for arrow in members}
            for one, other in product(all_arrows(web), repeat=2):
                way = forcing_way(web, one, other)
                self.assertEqual(way is not None, other in class_at[one])
                self.assertIs(shows_way(web, one, other, way), way is not None)

    def test_settled_is_what_each_led_pointing_has(self):
        for web in small_webs():
            ways = led_by_words(web)
            for size in range(3):
                for arrows in product(all_arrows(web), repeat=size):
                    with_these = [way for way in ways if set(arrows) <= set(way)]
                    common = None
                    if with_these:
                        common = sorted(arrow for arrow in with_these[0] if all(arrow in way for way in with_these))
                    self.assertEqual(settled(web, list(arrows)), common, (web, arrows))
                    self.assertEqual(extended(web, list(arrows)), with_these[0] if with_these else None)


class CountedTest(unittest.TestCase):
    def test_the_counted_ways_are_all(self):
        for web in five_webs():
            ways = led_by_words(web)
            self.assertEqual(count_ways(web), len(ways), web)
            self.assertEqual(all_ways(web), ways, web)

    def test_all_rows_are_counted_and_told_by_their_numbers(self):
        for web in small_webs():
            for pointing in led_by_words(web):
                rows = rows_by_words(web, pointing)
                self.assertEqual(count_rows(web, pointing), len(rows))
                self.assertEqual([row_at(web, pointing, k) for k in range(len(rows) + 1)], rows + [None])
                self.assertEqual([number_of_row(web, pointing, row) for row in rows], list(range(len(rows))))

    def test_each_list_of_all_places_is_a_row_of_one_led_pointing_at_most(self):
        for web in small_webs():
            ways = led_by_words(web)
            for row in all_rows(web[0]):
                numbers = [number_of_row(web, way, row) for way in ways]
                self.assertLessEqual(sum(number is not None for number in numbers), 1)


class ShownTest(unittest.TestCase):
    def test_chains_and_lots_show_one_another(self):
        for web in small_webs():
            most, broadest = max(len(part) for part in tied_sets(web)), max(len(part) for part in untied_sets(web))
            for pointing in led_by_words(web):
                chain, lots = longest_chain(web, pointing), lots_by(web, pointing)
                self.assertEqual([len(chain), len(lots)], [most, most], web)
                self.assertIs(shows_longest(web, chain, lots), True)
                lot, chains = widest(web, pointing)
                self.assertEqual([len(lot), len(chains)], [broadest, broadest], web)
                self.assertIs(shows_widest(web, lot, chains), True)

    def test_webs_asked_by_their_first_led_pointing(self):
        for web in five_webs():
            if can_be_pointed(web):
                self.assertEqual(len(greatest_tied(web)), max(len(part) for part in tied_sets(web)))
                self.assertEqual(len(fewest_groups(web)), len(greatest_tied(web)))
                self.assertEqual(greatest_untied(web), max(len(part) for part in untied_sets(web)))
            else:
                for ask in (greatest_tied, fewest_groups, greatest_untied):
                    with self.assertRaises(Barred) as caught:
                        ask(web)
                    self.assertTrue(walks_round(web, caught.exception.ring))

    def test_by_weights(self):
        chance = Random(51)
        for web in small_webs():
            for pointing in led_by_words(web):
                weights = [chance.choice((0, 1, 2, 7, 999)) for _ in range(web[0])]
                heaviest = max(sum(weights[place] for place in part) for part in tied_sets(web))
                chain, lots = heaviest_chain(web, pointing, weights), weighed_lots(web, pointing, weights)
                self.assertEqual(sum(weights[place] for place in chain), heaviest)
                self.assertEqual(sum(times for lot, times in lots), heaviest)
                self.assertIs(shows_weighed(web, weights, chain, lots), True)

    def test_what_a_checker_takes_is_the_greatest(self):
        # Whatever chain and lots are taken, no tied places are more, or heavier.
        taken = 0
        for web in list(all_webs(3)):
            sets = [part for part in untied_sets(web) if part]
            most = max(len(part) for part in tied_sets(web))
            for chain in tied_sets(web):
                for lots in rising_lists(sets):
                    if shows_longest(web, tuple(chain), lots):
                        self.assertEqual(len(chain), most)
                        taken += 1
                    if shows_weighed(web, [1] * 3, tuple(chain), [(lot, 1) for lot in lots]):
                        self.assertEqual(len(chain), most)
                        taken += 1
        self.assertGreater(taken, 0)


class RowsTest(unittest.TestCase):
    def test_two_rows_crossed_give_back_the_web(self):
        kinds = set()
        for web in list(five_webs()) + list(barred_webs()) + [gaps_of(web) for web in barred_webs()]:
            told = two_rows(web)
            kinds.add(told[0])
            if told[0] == "rows":
                self.assertEqual(crossed_web(told[1], told[2]), web)
                self.assertIs(shows_rows(web, told[1:]), True)
                self.assertTrue(is_led_by_words(crossed_pointing(told[1], told[2])))
            else:
                self.assertTrue(walks_round(web if told[0] == "ties" else gaps_of(web), told[1]), web)
        self.assertEqual(kinds, {"rows", "ties", "gaps"})

    def test_rows_are_there_just_where_some_cross_so(self):
        for many in range(5):
            rows = all_rows(many)
            crossed = {crossed_web(one, other) for one in rows for other in rows}
            for web in all_webs(many):
                self.assertEqual(two_rows(web)[0] == "rows", web in crossed)


class TurnsTest(unittest.TestCase):
    def test_each_turn_leaves_a_led_one_and_no_fewer_do(self):
        for web in small_webs():
            ways = led_by_words(web)
            for one in ways:
                steps = steps_by_words(web, one)
                self.assertEqual(sorted(steps), ways)
                for other in ways:
                    told = turns(web, one, other)
                    self.assertEqual([len(told), many_turns(web, one, other)], [steps[other]] * 2, (web, one, other))
                    self.assertIs(shows_turns(web, one, other, told), True)
                    self.walk(web, one, other, told)

    def walk(self, web, one, other, told):
        pointing = one
        for tie in told:
            pointing = with_turn(web, pointing, tie)
            self.assertTrue(is_led_by_words(pointing))
        self.assertEqual(pointing, other)


class KeptTest(unittest.TestCase):
    def test_any_row_of_changes(self):
        chance = Random(52)
        for many in (2, 3, 4, 5, 6) * 6:
            kept = Kept(many)
            done = [(many, ())]
            for _ in range(25):
                self.change(kept, done, chance)
                web = done[-1]
                self.assertEqual(kept.web_now(), web)
                self.assertEqual([kept.classes_now(), kept.count_now()], [classes(web), count_ways(web)])
                self.check_pointing(kept, web)

    def change(self, kept, done, chance):
        """One change, or one that is refused, or one taken back, in the kept web and in the list of all webs."""
        many, ties = done[-1]
        a, b = chance.sample(range(many), 2)
        tie = (min(a, b), max(a, b))
        deed = chance.choice(("undo", "place", "tie", "tie", "tie", "tie", "tie", "refused"))
        if deed == "undo":
            self.assertEqual(kept.undo(), done[-2] if len(done) > 1 else None)
            # What there was at first stays.
            done[1:] = done[1:-1]
        elif deed == "place" and many < 7:
            self.assertEqual(kept.put_place(), many)
            done.append((many + 1, ties))
        elif deed == "refused":
            with self.assertRaises(Tied if tie in ties else NoTie):
                (kept.put_tie if tie in ties else kept.cut_tie)(a, b)
        else:
            self.assertEqual((kept.cut_tie if tie in ties else kept.put_tie)(a, b)[0] == "led", self.toggle(done, tie))

    def toggle(self, done, tie):
        """Whether the web is led once a tie is put in or taken out."""
        many, ties = done[-1]
        done.append((many, tuple(sorted(set(ties) ^ {tie}))))
        return can_be_pointed(done[-1])

    def check_pointing(self, kept, web):
        kind, found = pointed(web)
        if kind == "led":
            self.assertEqual(kept.pointing_now(), found)
        else:
            with self.assertRaises(Barred) as caught:
                kept.pointing_now()
            self.assertEqual(caught.exception.ring, found)

    def test_a_sheet_tells_what_a_kept_web_does(self):
        chance = Random(53)
        for many in (3, 4, 5, 6):
            kept, rows, wanted = Kept(many), [f"web {many}"], []
            for _ in range(18):
                a, b = chance.sample(range(many), 2)
                there = (min(a, b), max(a, b)) in kept.web_now()[1]
                (kept.cut_tie if there else kept.put_tie)(a, b)
                rows += [f"{'cut' if there else 'tie'} {a}-{b}", "count", "led"]
                wanted.append(str(kept.count_now()))
                kind, found = pointed(kept.web_now())
                arrows = " ".join(f"{c}>{d}" for c, d in found) or "-"
                wanted.append(arrows if kind == "led" else f"barred {arrows}")
            self.assertEqual(run("\n".join(rows)), wanted)


if __name__ == "__main__":
    unittest.main()
