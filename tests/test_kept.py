import unittest
from itertools import combinations
from random import Random

from pointedties.errors import Barred, Full, NoPlace, NoTie, Tied, TieError
from pointedties.forcings import classes
from pointedties.kept import Kept
from pointedties.leading import pointed
from pointedties.waycheck import shows_round
from pointedties.ways import count_ways
from tests.samples import barred_webs, beside, full, groups, line, ring, small_webs, tied_together, twelve_webs


class Remembered:
    """A kept web by the words of point [16]: all webs that there were, in time, are gone through to tell anything."""

    def __init__(self, many):
        self.done = [(many, ())]
        self.times = list(self.done)

    def web(self):
        return self.done[-1]

    def last_led(self):
        """The web when it last was led, with its first led pointing."""
        for web in reversed(self.times):
            kind, pointing = pointed(web)
            if kind == "led":
                return web, pointing
        raise AssertionError("at first it is led")

    def change(self, web):
        """What a change to a web tells."""
        before, arrows = self.last_led()
        self.done.append(web)
        self.times.append(web)
        kind, found = pointed(web)
        if kind == "barred":
            return ("barred", found)
        was = dict(zip(before[1], arrows))
        return ("led", [tie for tie, arrow in zip(web[1], found) if tie in was and was[tie] != arrow])

    def put_place(self):
        many, ties = self.web()
        self.change((many + 1, ties))
        return many

    def put_tie(self, tie):
        return self.change((self.web()[0], tuple(sorted(self.web()[1] + (tie,)))))

    def cut_tie(self, tie):
        return self.change((self.web()[0], tuple(one for one in self.web()[1] if one != tie)))

    def undo(self):
        if len(self.done) == 1:
            return None
        self.done.pop()
        self.times.append(self.web())
        return self.web()


class KeptCase(unittest.TestCase):
    def check_now(self, kept, web):
        self.assertEqual(kept.web_now(), web)
        self.assertIsInstance(kept.web_now(), tuple)
        kind, found = pointed(web)
        if kind == "led":
            self.assertEqual(kept.pointing_now(), found)
            self.assertIsInstance(kept.pointing_now(), tuple)
        else:
            self.assertEqual(self.refused(Barred, kept.pointing_now).ring, found)
        self.assertEqual(kept.classes_now(), classes(web))
        self.assertEqual(kept.count_now(), count_ways(web))

    def refused(self, kind, deed, *handed):
        with self.assertRaises(kind) as caught:
            deed(*handed)
        self.assertIs(type(caught.exception), kind)
        self.assertIsInstance(caught.exception, TieError)
        self.assertIsInstance(caught.exception, ValueError)
        return caught.exception

    def step(self, kept, model, tie):
        """Puts a tie in where it isn't, takes it out where it is; the numbers in either order by turns."""
        a, b = tie if len(model.times) % 2 else (tie[1], tie[0])
        if tie in model.web()[1]:
            told, wanted = kept.cut_tie(a, b), model.cut_tie(tie)
        else:
            told, wanted = kept.put_tie(a, b), model.put_tie(tie)
        self.assertIsInstance(told, tuple)
        self.assertIsInstance(told[1], list)
        self.assertEqual(told, wanted, (model.times, tie))
        return told

    def walk(self, many, steps):
        """Ties put in or taken out, "undo" and "place", one after another; tells the kept web and the last answer."""
        kept, model = Kept(many), Remembered(many)
        told = None
        for step in steps:
            if step == "undo":
                told = kept.undo()
                self.assertEqual(told, model.undo(), steps)
            elif step == "place":
                told = kept.put_place()
                self.assertEqual(told, model.put_place(), steps)
            else:
                told = self.step(kept, model, step)
            self.check_now(kept, model.web())
        return kept, told


def drawn_steps(draws, many, size):
    """Steps drawn one after another; ties go to the first so many places alone, as later ones may be gone again."""
    steps = []
    for _ in range(size):
        draw = draws.random()
        if draw < 0.22:
            steps.append("undo")
        elif draw < 0.27 and many + steps.count("place") < 12:
            steps.append("place")
        else:
            steps.append(tuple(sorted(draws.sample(range(many), 2))))
    return steps


class DrawsTest(KeptCase):
    def test_few_places(self):
        draws = Random(160)
        for many in (2, 3, 4, 5, 5, 5, 6, 6, 7):
            for _ in range(4):
                self.walk(many, drawn_steps(draws, many, 40))

    def test_more_places(self):
        draws = Random(161)
        for many in (8, 10, 12):
            self.walk(many, drawn_steps(draws, many, 50))

    def test_rings_tie_by_tie_in_any_order(self):
        draws = Random(162)
        for many in (5, 7):
            for _ in range(6):
                ties = list(ring(many)[1])
                draws.shuffle(ties)
                again = [draws.choice(ties) for _ in range(25)]
                self.walk(many, ties + again)
                undone = [step if draws.random() < 0.6 else "undo" for step in ties + again + ties]
                self.walk(many, undone)

    def test_many_undos(self):
        draws = Random(163)
        for _ in range(8):
            steps = []
            while len(steps) < 50:
                steps += drawn_steps(draws, 6, draws.randrange(1, 9)) + ["undo"] * draws.randrange(6)
            self.walk(6, steps)

    def test_places_put_and_taken_back(self):
        draws = Random(164)
        for _ in range(10):
            kept, model = Kept(0), Remembered(0)
            for _ in range(40):
                many = model.web()[0]
                if many < 2 or draws.random() < 0.15 and many < 12:
                    self.assertEqual(kept.put_place(), model.put_place())
                elif draws.random() < 0.25:
                    self.assertEqual(kept.undo(), model.undo())
                else:
                    self.step(kept, model, tuple(sorted(draws.sample(range(many), 2))))
                self.check_now(kept, model.web())


class ToldTest(KeptCase):
    def test_each_tie_put_and_cut_of_small_webs(self):
        for many, ties in small_webs():
            self.walk(many, ties + ties)
            self.walk(many, ties + ties[::-1])

    def test_ties_that_a_put_turns(self):
        kept, told = self.walk(4, [(1, 2), (0, 1)])
        self.assertEqual(told, ("led", [(1, 2)]))
        self.assertEqual(kept.cut_tie(1, 0), ("led", [(1, 2)]))
        self.assertEqual(kept.put_tie(0, 1), ("led", [(1, 2)]))

    def test_a_tie_put_in_or_taken_out_is_not_told(self):
        for many, ties in small_webs():
            kept = Kept(many)
            for a, b in ties:
                self.assertNotIn((a, b), kept.put_tie(b, a)[1])
            for a, b in ties:
                self.assertNotIn((a, b), kept.cut_tie(a, b)[1])

    def test_a_tie_cut_and_put_again_behind_a_barred_time(self):
        # The ring is barred; the tie that is cut there and put in again was there when the web last was led.
        steps = list(ring(5)[1]) + [(2, 3), (2, 3), (0, 1)]
        self.walk(5, steps)
        for tie in ring(5)[1]:
            self.walk(5, list(ring(5)[1]) + ["undo", tie, tie])
            self.walk(6, list(ring(5)[1]) + [(4, 5), tie, (4, 5), tie])

    def test_a_change_that_was_taken_back_since_counts_in_time(self):
        steps = [(3, 4), (2, 4), (0, 3), (1, 2), (0, 1), (0, 4), "undo", (0, 1)]
        self.assertEqual(self.walk(5, steps)[1], ("led", [(1, 2), (2, 4), (3, 4)]))
        steps = [(0, 1), (0, 2), (3, 4), (2, 4), (1, 3), (2, 3), "undo", (2, 3)]
        self.assertEqual(self.walk(5, steps)[1], ("led", []))

    def test_an_undo_that_leaves_a_led_web_counts(self):
        self.assertEqual(self.walk(5, [(1, 4), (1, 4), "undo", (0, 1)])[1], ("led", [(1, 4)]))
        self.assertEqual(self.walk(5, [(2, 3), (0, 2), "undo", (1, 4)])[1], ("led", []))

    def test_an_undo_that_leaves_a_barred_web_does_not_count(self):
        ties = list(ring(5)[1])
        for tie in full(5)[1]:
            for other in full(5)[1]:
                self.walk(5, ties + [tie, "undo", other])

    def test_led_again_many_changes_later(self):
        for many in (5, 7):
            ties = list(ring(many)[1])
            apart = [(many, many + 1), (many + 1, many + 2), (many, many + 2)]
            steps = ties + apart + ["place"] + apart + ["undo"] * 3 + [(1, many), (1, many)]
            for tie in ties:
                kept, told = self.walk(many + 3, steps + [tie])
                self.assertEqual(told[0], "led")
        kept, told = self.walk(7, list(ring(7)[1]))
        self.assertEqual(told, ("barred", pointed(ring(7))[1]))
        self.assertIs(shows_round(kept.web_now(), told[1]), True)

    def test_known_answers(self):
        kept = Kept(5)
        for a, b in ((0, 1), (1, 2), (2, 3), (3, 4)):
            self.assertEqual(kept.put_tie(a, b), ("led", []))
        self.assertEqual(kept.put_tie(4, 0), ("barred", [(0, 1), (0, 4), (3, 4), (3, 2), (1, 2), (1, 0)]))
        self.assertEqual(kept.count_now(), 0)
        self.assertEqual(len(kept.classes_now()), 1)
        self.assertEqual(kept.cut_tie(0, 1), ("led", [(1, 2), (2, 3), (3, 4)]))
        self.assertEqual(kept.pointing_now(), ((0, 4), (1, 2), (3, 2), (3, 4)))
        self.assertEqual(kept.undo(), ring(5))
        self.assertEqual(kept.undo(), line(5))
        self.assertEqual(kept.count_now(), 2)

    def test_without_places_and_of_one(self):
        for many in (0, 1):
            kept = Kept(many)
            self.assertEqual([kept.web_now(), kept.pointing_now(), kept.classes_now(), kept.count_now(), kept.undo()],
                             [(many, ()), (), [], 1, None])

    def test_twelve_places(self):
        draws = Random(165)
        for web in twelve_webs():
            ties = list(web[1])
            draws.shuffle(ties)
            kept, model = Kept(12), Remembered(12)
            for tie in ties:
                self.step(kept, model, tie)
            self.check_now(kept, web)
            for tie in ties[:6]:
                self.step(kept, model, tie)
            self.check_now(kept, model.web())

    def test_barred_webs(self):
        for web in barred_webs():
            kept, model = Kept(web[0]), Remembered(web[0])
            for tie in web[1]:
                told = self.step(kept, model, tie)
            self.assertEqual(told, pointed(web))
            self.check_now(kept, web)


class UndoTest(KeptCase):
    def test_all_undone_and_done_again(self):
        draws = Random(166)
        for many in (4, 5, 7, 12):
            ties = [tuple(sorted(draws.sample(range(many), 2))) for _ in range(25)]
            kept = Kept(many)
            for _ in range(2):
                webs = [kept.web_now()]
                for tie in ties:
                    (kept.cut_tie if tie in webs[-1][1] else kept.put_tie)(*tie)
                    webs.append(kept.web_now())
                for web in reversed(webs[:-1]):
                    self.assertEqual(kept.undo(), web)
                    self.check_now(kept, web)
                for _ in range(3):
                    self.assertIsNone(kept.undo())
                    self.assertEqual(kept.web_now(), (many, ()))

    def test_none_at_first(self):
        for many in range(13):
            kept = Kept(many)
            self.assertIsNone(kept.undo())
            self.assertIsNone(kept.undo())
            self.assertEqual(kept.web_now(), (many, ()))
            self.assertEqual(kept.count_now(), 1)

    def test_a_place_is_taken_back(self):
        kept = Kept(2)
        self.assertEqual(kept.put_place(), 2)
        kept.put_tie(0, 2)
        self.assertEqual(kept.undo(), (3, ()))
        self.assertEqual(kept.undo(), (2, ()))
        self.refused(NoPlace, kept.put_tie, 0, 2)
        self.assertEqual(kept.put_place(), 2)
        self.assertEqual(kept.put_tie(2, 0), ("led", []))
        self.assertEqual(kept.web_now(), (3, ((0, 2),)))

    def test_what_was_undone_is_not_undone_again(self):
        kept, told = self.walk(5, [(0, 1), (1, 2), "undo", (2, 3), "undo", "undo", (3, 4), (3, 4), "undo", "undo"])
        self.assertEqual(told, (5, ()))
        self.assertIsNone(kept.undo())

    def test_none_changes_nothing_of_what_is_told_next(self):
        kept = Kept(5)
        kept.put_tie(1, 2)
        kept.undo()
        self.assertIsNone(kept.undo())
        kept.put_tie(1, 2)
        self.assertEqual(kept.put_tie(0, 1), ("led", [(1, 2)]))

    def test_undo_of_a_barred_web(self):
        for web in barred_webs():
            kept = Kept(web[0])
            told = [kept.put_tie(a, b) for a, b in web[1]]
            self.assertEqual(told[-1][0], "barred")
            for at in range(len(web[1]) - 1, -1, -1):
                self.assertEqual(kept.undo(), (web[0], web[1][:at]))
            self.assertIsNone(kept.undo())


class RefusedTest(KeptCase):
    def kept_of(self, web):
        kept = Kept(web[0])
        for a, b in web[1]:
            kept.put_tie(a, b)
        return kept

    def webs(self):
        yield from ((0, ()), (1, ()), (2, ()), line(2), line(4), full(4), ring(5), groups(2, 3), ring(7), full(12))

    def test_no_place(self):
        for web in self.webs():
            kept = self.kept_of(web)
            many = web[0]
            wrong = [(place, place) for place in range(many)] + [(many, many), (-1, -1)]
            for other in (-1, many, many + 1, -many, 10 ** 30, -10 ** 30):
                if not 0 <= other < many:
                    wrong += [(place, other) for place in (0, many - 1, other, other + 1)]
            for a, b in wrong:
                for deed in (kept.put_tie, kept.cut_tie):
                    self.refused(NoPlace, deed, a, b)
                    self.refused(NoPlace, deed, b, a)
            self.check_now(kept, web)

    def test_tied_and_no_tie(self):
        for web in self.webs():
            kept = self.kept_of(web)
            for tie in combinations(range(web[0]), 2):
                for a, b in (tie, tie[::-1]):
                    if tie in web[1]:
                        self.refused(Tied, kept.put_tie, a, b)
                    else:
                        self.refused(NoTie, kept.cut_tie, a, b)
            self.check_now(kept, web)

    def test_full(self):
        for many in range(13):
            kept = Kept(many)
            for number in range(many, 12):
                self.assertEqual(kept.put_place(), number)
            for _ in range(2):
                self.refused(Full, kept.put_place)
            self.assertEqual(kept.web_now(), (12, ()))
            for number in range(11, many - 1, -1):
                self.assertEqual(kept.undo(), (number, ()))
            self.assertIsNone(kept.undo())

    def test_room_again_behind_an_undo(self):
        kept = Kept(11)
        kept.put_place()
        self.refused(Full, kept.put_place)
        kept.undo()
        self.assertEqual(kept.put_place(), 11)
        self.assertEqual(kept.put_tie(11, 0), ("led", []))

    def test_barred(self):
        for web in barred_webs():
            kept = self.kept_of(web)
            found = pointed(web)[1]
            one, other = (self.refused(Barred, kept.pointing_now) for _ in range(2))
            self.assertIsInstance(one.ring, list)
            self.assertEqual(one.ring, found)
            one.ring.clear()
            self.assertEqual(other.ring, found)
            self.assertEqual(self.refused(Barred, kept.pointing_now).ring, found)
            self.check_now(kept, web)

    def test_a_refusal_is_no_change(self):
        kept = Kept(3)
        kept.put_tie(1, 2)
        for _ in range(3):
            self.refused(Tied, kept.put_tie, 2, 1)
            self.refused(NoTie, kept.cut_tie, 0, 1)
            self.refused(NoPlace, kept.put_tie, 0, 3)
            self.refused(NoPlace, kept.cut_tie, 1, 1)
        self.assertEqual(kept.put_tie(0, 1), ("led", [(1, 2)]))
        self.refused(Tied, kept.put_tie, 0, 1)
        self.assertEqual(kept.undo(), (3, ((1, 2),)))
        self.refused(NoTie, kept.cut_tie, 0, 1)
        self.assertEqual(kept.undo(), (3, ()))
        self.assertIsNone(kept.undo())

    def test_refusals_strewn_in(self):
        draws = Random(167)
        for many in (5, 6):
            kept, model = Kept(many), Remembered(many)
            for _ in range(60):
                a, b = draws.sample(range(many), 2)
                if (min(a, b), max(a, b)) in model.web()[1]:
                    self.refused(Tied, kept.put_tie, a, b)
                else:
                    self.refused(NoTie, kept.cut_tie, a, b)
                self.refused(NoPlace, kept.put_tie, a, many)
                self.refused(NoPlace, kept.cut_tie, a, a)
                if pointed(model.web())[0] == "barred":
                    self.refused(Barred, kept.pointing_now)
                if draws.random() < 0.25:
                    self.assertEqual(kept.undo(), model.undo())
                else:
                    self.step(kept, model, tuple(sorted(draws.sample(range(many), 2))))
                self.assertEqual(kept.web_now(), model.web())


class OwnTest(KeptCase):
    def test_two_by_turns(self):
        draws = Random(168)
        pairs = [(Kept(many), Remembered(many)) for many in (5, 5, 7)]
        for _ in range(90):
            kept, model = draws.choice(pairs)
            if draws.random() < 0.2:
                self.assertEqual(kept.undo(), model.undo())
            else:
                self.step(kept, model, tuple(sorted(draws.sample(range(model.web()[0]), 2))))
            for kept, model in pairs:
                self.assertEqual(kept.web_now(), model.web())

    def test_told_lists_changed_and_asked_again(self):
        for web in (ring(5), line(4), full(4), beside(ring(5), line(3)), tied_together(ring(5), (1, ()))):
            kept, model = Kept(web[0]), Remembered(web[0])
            for tie in web[1] + web[1][::-1]:
                told = self.step(kept, model, tie)
                told[1].append("spoilt")
                for members in kept.classes_now():
                    members.clear()
                kept.classes_now().clear()
                self.check_now(kept, model.web())

    def test_what_was_told_stays(self):
        kept = Kept(5)
        held = []
        for tie in ring(5)[1]:
            held.append((kept.put_tie(*tie), kept.web_now(), kept.classes_now()))
        before = [(pointed(web)[0], web, classes(web)) for told, web, members in held]
        for _ in range(5):
            kept.undo()
        self.assertEqual([(told[0], web, members) for told, web, members in held], before)
        self.assertEqual(held[-1][0][1], pointed(ring(5))[1])

    def test_the_same_told_again(self):
        for web in (ring(5), line(5), full(5)):
            kept = Kept(web[0])
            for a, b in web[1]:
                kept.put_tie(a, b)
            for _ in range(3):
                self.check_now(kept, web)
            one, other = kept.classes_now(), kept.classes_now()
            self.assertEqual(one, other)
            lists = [one, other, *one, *other]
            self.assertEqual(len({id(part) for part in lists}), len(lists))

    def test_deeds_are_the_class_s_own(self):
        names = ("put_place", "put_tie", "cut_tie", "web_now", "pointing_now", "classes_now", "count_now", "undo")
        for name in names:
            self.assertIn(name, vars(Kept))


if __name__ == "__main__":
    unittest.main()
