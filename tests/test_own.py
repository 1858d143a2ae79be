"""Point [2]: what is told is the asker's own, and what is handed in stays as it was."""

import unittest
from copy import deepcopy

from pointedties.allrows import count_rows, number_of_row, often_ahead, row_at
from pointedties.errors import BadRow
from pointedties.forcings import bundles, class_of, classes, forced, forcing_way
from pointedties.leading import can_be_pointed, extended, pointed, settled
from pointedties.modulecheck import shows_parts
from pointedties.modules import is_module, least_module, parts_of, places_in, shape_of
from pointedties.ordercheck import shows_longest, shows_widest
from pointedties.orders import heights, longest_chain, lots_by, widest
from pointedties.pointings import turned_about
from pointedties.rows import crossed_pointing, crossed_web, crossings
from pointedties.sheet import run
from pointedties.stretches import apart_pointing, apart_web, stretches_for
from pointedties.turncheck import shows_turns
from pointedties.turning import many_turns, may_turn, turns, with_turn
from pointedties.tworows import most_apart, shows_rows, two_rows
from pointedties.waycheck import shows_round, shows_way
from pointedties.ways import all_ways, common_to, count_ways
from pointedties.webfew import fewest_groups, greatest_tied, greatest_untied, is_shared
from pointedties.webs import gaps_of
from pointedties.weighcheck import shows_weighed
from pointedties.weighed import heaviest_chain, weighed_heights, weighed_lots
from tests.samples import all_arrows, beside, full, groups, line, ring

WEBS = ((0, ()), (1, ()), (4, ()), line(2), line(4), line(12), ring(5), ring(6), ring(7), full(4), full(12),
        groups(1, 2, 2), beside(ring(5), line(3)), beside(line(3), ring(5)))


def questions(web):
    """Functions with what they are handed, of one web; no list is handed to two of them."""
    yield from ((classes, (web,)), (bundles, (web,)), (pointed, (web,)), (can_be_pointed, (web,)), (parts_of, (web,)))
    yield from ((settled, (web, [])), (extended, (web, [])), (is_module, (web, [])))
    arrows = all_arrows(web)
    for arrow in arrows[::3]:
        yield from ((forced, (web, arrow)), (class_of, (web, arrow)), (settled, (web, [arrow])))
        yield from ((extended, (web, [arrow, arrow])), (settled, (web, [arrow, arrows[-1], arrows[0]])))
        for other in (arrow, arrows[0], (arrow[1], arrow[0])):
            yield forcing_way, (web, arrow, other)
            yield from ((shows_way, (web, arrow, other, [arrow, other])), (shows_round, (web, [arrow, other])))
    for places in ([0], [0, 2], list(range(web[0]))):
        if places and places[-1] < web[0]:
            yield from ((is_module, (web, list(places))), (least_module, (web, list(places))))
    tree = parts_of(web)
    if tree is not None:
        yield from ((places_in, (tree,)), (shows_parts, (web, tree)), (shows_parts, (web, [[tree], tree[1]])))
        if tree[0] != "place":
            yield shape_of, (web, tree)
    yield from ((count_ways, (web,)), (stretches_for, (web,)), (two_rows, (web,)))
    row = list(range(web[0]))
    yield from ((shows_rows, (web, (row, row[::-1]))), (shows_rows, (web, [list(row), [row[:1]]])))
    if can_be_pointed(gaps_of(web)):
        yield most_apart, (web,)
    yield from questions_of_rows(web[0])
    yield run, (sheet_of(web),)
    if web[0] <= 7:
        yield all_ways, (web,)
    if can_be_pointed(web):
        first = pointed(web)[1]
        yield from questions_of_pointing(web, first)
        yield from questions_of_pointing(web, turned_about(first))
        yield common_to, (web, [first, turned_about(first)])
        yield from questions_of_turns(web, first, turned_about(first))
        for ask in (greatest_tied, fewest_groups, greatest_untied, is_shared):
            yield ask, (web,)


def sheet_of(web):
    """A sheet with all asks of a web."""
    ties = [" ".join(["tie"] + [f"{b}-{a}" for a, b in web[1]])] if web[1] else []
    asks = ["led", "classes", "count", "parts", "chain", "groups", "rows", "stretches"]
    return "\n".join([f"web {web[0]}"] + ties + asks)


def questions_of_rows(many):
    """Asked by so many stretches, and by rows of so many places."""
    for ask in (apart_web, apart_pointing):
        yield from ((ask, ([(k, k) for k in range(many)],)), (ask, ([(-k, k % 3) for k in range(many)],)))
    for ask in (crossed_web, crossed_pointing, crossings):
        yield ask, (list(range(many)), list(range(many - 1, -1, -1)))
        yield ask, (list(range(many)), list(range(many)))
        yield ask, (list(range(0, many, 2)) + list(range(1, many, 2)), list(range(many)))


def questions_of_pointing(web, pointing):
    for ask in (heights, longest_chain, lots_by, widest):
        yield ask, (web, pointing)
    yield from ((common_to, (web, [pointing])), (common_to, (web, [pointing, pointing])))
    yield shows_longest, (web, longest_chain(web, pointing), lots_by(web, pointing))
    lot, chains = widest(web, pointing)
    yield shows_widest, (web, lot, chains)
    yield shows_longest, (web, list(lot), [list(chain) for chain in chains])
    yield from questions_of_weights(web, pointing)
    yield from questions_of_all_rows(web, pointing)


def questions_of_weights(web, pointing):
    for weights in ([1] * web[0], [0] * web[0], [(7 * place + 3) % 5 for place in range(web[0])]):
        for ask in (weighed_heights, heaviest_chain, weighed_lots):
            yield ask, (web, pointing, list(weights))
        chain, lots = heaviest_chain(web, pointing, weights), weighed_lots(web, pointing, weights)
        other = [[list(lot), [times]] for lot, times in lots]
        yield shows_weighed, (web, list(weights), chain, lots)
        yield shows_weighed, (web, list(weights), chain, other)


def questions_of_all_rows(web, pointing):
    many = count_rows(web, pointing)
    yield count_rows, (web, pointing)
    for k in sorted({0, many // 2, many - 1, many}):
        yield row_at, (web, pointing, k)
    yield number_of_row, (web, pointing, row_at(web, pointing, many // 2))
    yield number_of_row, (web, pointing, list(range(web[0])))
    if web[0] > 1:
        yield from ((often_ahead, (web, pointing, 0, web[0] - 1)), (often_ahead, (web, pointing, 1, 0)))


def questions_of_turns(web, one, other):
    for tie in web[1][::5]:
        yield with_turn, (web, one, tie)
    yield from ((may_turn, (web, one)), (turns, (web, one, one)), (turns, (web, one, other)))
    yield from ((many_turns, (web, one, other)), (shows_turns, (web, one, other, turns(web, one, other))))
    yield shows_turns, (web, one, other, [[list(tie) for tie in web[1]], list(web[1])])


def lists_in(told):
    """All lists within what is told, itself too."""
    if isinstance(told, list):
        yield told
    if isinstance(told, (list, tuple)):
        for part in told:
            yield from lists_in(part)


def spoil(told):
    for one in list(lists_in(told)):
        one.append("spoilt")
        one.reverse()


class OwnTest(unittest.TestCase):
    def test_told_lists_changed_and_asked_again(self):
        for web in WEBS:
            for ask, handed in questions(web):
                told = ask(*handed)
                before = deepcopy(told)
                spoil(told)
                self.assertEqual(ask(*handed), before, (ask, handed))

    def test_no_two_told_lists_are_one(self):
        for web in WEBS:
            # All answers are held at once, so no two lists can have one address by chance.
            held = [(ask(*handed), handed) for ask, handed in questions(web) for _ in range(2)]
            told = [one for answer, handed in held for one in lists_in(answer)]
            self.assertEqual(len({id(one) for one in told}), len(told))
            given = {id(one) for answer, handed in held for one in lists_in(handed)}
            self.assertFalse(given & {id(one) for one in told})

    def test_what_is_handed_in_stays(self):
        for web in WEBS:
            for ask, handed in questions(web):
                before = deepcopy(handed)
                ask(*handed)
                self.assertEqual(handed, before, ask)

    def test_what_is_handed_in_is_not_kept(self):
        for web in WEBS:
            for ask, handed in questions(web):
                again = deepcopy(handed)
                told = ask(*handed)
                before = deepcopy(told)
                spoil(handed)
                self.assertEqual(told, before, ask)
                self.assertEqual(ask(*again), before, ask)

    def test_another_web_asked_between(self):
        for web in WEBS:
            first = [ask(*handed) for ask, handed in questions(web)]
            before = deepcopy(first)
            for other in WEBS:
                for ask, handed in questions(other):
                    spoil(ask(*handed))
            self.assertEqual(first, before)
            self.assertEqual([ask(*handed) for ask, handed in questions(web)], before)

    def test_what_was_told_may_be_handed_in_again(self):
        for web in WEBS:
            kind, told = pointed(web)
            if kind == "led":
                self.assertEqual(extended(web, list(told)), told)
                self.assertEqual(settled(web, settled(web, list(told))), sorted(told))
            else:
                self.assertIs(shows_round(web, told), True)
                self.assertEqual(forcing_way(web, told[0], told[-1]), told)
            for place in range(web[0]):
                self.assertEqual(least_module(web, least_module(web, [place])), [place])
            if kind == "led" and web[0] <= 7:
                self.assertEqual(common_to(web, all_ways(web)), [])
            kind, told = stretches_for(web)
            if kind == "stretches":
                self.assertEqual(apart_web(told), web)
                self.assertEqual(stretches_for(apart_web(told)), (kind, told))
            told = two_rows(web)
            if told[0] == "rows":
                self.assertIs(shows_rows(web, told[1:]), True)
                self.assertEqual(two_rows(crossed_web(told[1], told[2])), told)
            row = list(range(web[0]))
            self.assertEqual([crossings(row, row), crossed_web(row, row)], [[], (web[0], ())])
            if can_be_pointed(web):
                self.check_orders_handed_in_again(web, pointed(web)[1])

    def check_orders_handed_in_again(self, web, pointing):
        row = row_at(web, pointing, 0)
        self.assertEqual(number_of_row(web, pointing, row), 0)
        self.assertEqual(row_at(web, pointing, number_of_row(web, pointing, row)), row)
        tall = weighed_heights(web, pointing, [1] * web[0])
        chain, lots = heaviest_chain(web, pointing, tall), weighed_lots(web, pointing, tall)
        self.assertIs(shows_weighed(web, tall, chain, lots), True)

    def test_a_refused_sheet_changes_nothing(self):
        for web in WEBS:
            told = run(sheet_of(web))
            before = list(told)
            for _ in range(2):
                with self.assertRaises(BadRow) as caught:
                    run(sheet_of(web) + "\nbad\n")
                self.assertEqual(caught.exception.row, sheet_of(web).count("\n") + 1)
                caught.exception.row = None
            self.assertEqual(told, before)
            self.assertEqual(run(sheet_of(web)), before)

    def test_another_pointing_asked_between(self):
        for web in WEBS:
            if can_be_pointed(web):
                first = pointed(web)[1]
                before = [ask(*handed) for ask, handed in questions_of_pointing(web, first)]
                wanted = deepcopy(before)
                for ask, handed in questions_of_pointing(web, turned_about(first)):
                    spoil(ask(*handed))
                self.assertEqual(before, wanted)
                self.assertEqual([ask(*handed) for ask, handed in questions_of_pointing(web, first)], wanted)

    def test_told_kinds(self):
        for web in WEBS:
            for ask in (classes, bundles):
                told = ask(web)
                self.assertIsInstance(told, list)
                for part in told:
                    self.assertIsInstance(part, list)
                    self.assertTrue(all(isinstance(arrow, tuple) for arrow in part))
            self.assertIn(can_be_pointed(web), (True, False))
            self.assertIsInstance(can_be_pointed(web), bool)
            kind, told = pointed(web)
            self.assertIsInstance(told, tuple if kind == "led" else list)


if __name__ == "__main__":
    unittest.main()
