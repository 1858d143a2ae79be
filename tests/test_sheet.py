import unittest
from random import Random

from pointedties.errors import BadRow, TieError
from pointedties.forcings import classes, forcing_way
from pointedties.leading import can_be_pointed, pointed, settled
from pointedties.modules import parts_of
from pointedties.sheet import run
from pointedties.stretches import stretches_for
from pointedties.tworows import two_rows
from pointedties.ways import count_ways
from pointedties.webfew import fewest_groups, greatest_tied
from pointedties.webs import gaps_of
from tests.samples import (
    all_arrows, barred_webs, beside, full, groups, line, ring, small_webs, star, tied_together, turned, twelve_webs,
)

PLAIN = ("led", "classes", "count", "parts", "chain", "groups", "rows", "stretches")
ROUND_OF_FIVE = "0>1 0>4 3>4 3>2 1>2 1>0"


def joined(words):
    return " ".join(str(word) for word in words) or "-"


def arrows_told(arrows):
    return "-" if arrows is None else joined(f"{a}>{b}" for a, b in arrows)


def sets_told(texts):
    return " ; ".join(texts) or "-"


def tree_told(tree):
    if tree is None:
        return "-"
    if tree[0] == "place":
        return str(tree[1])
    return tree[0] + "(" + " ".join(tree_told(part) for part in tree[1]) + ")"


def rows_told(web):
    told = two_rows(web)
    if told[0] == "rows":
        return joined(told[1]) + " ; " + joined(told[2])
    return ("barred " if told[0] == "ties" else "gaps ") + arrows_told(told[1])


def stretches_told(web):
    kind, found = stretches_for(web)
    if kind == "stretches":
        return joined(f"{begin}:{end}" for begin, end in found)
    return f"four {joined(found)}" if kind == "four" else f"barred {arrows_told(found)}"


def wanted(web, ask):
    """The answer to an ask, by what the parts tell of the web."""
    word, *arrows = ask.split(" ")
    arrows = [tuple(int(place) for place in arrow.split(">")) for arrow in arrows]
    kind, found = pointed(web)
    barred = f"barred {arrows_told(found)}"
    if word == "led":
        return arrows_told(found) if kind == "led" else barred
    if word == "classes":
        return sets_told(arrows_told(members) for members in classes(web))
    if word == "way":
        return arrows_told(forcing_way(web, *arrows))
    if word == "settled":
        return arrows_told(settled(web, arrows))
    if word == "count":
        return str(count_ways(web))
    if word == "parts":
        return tree_told(parts_of(web))
    if word == "chain":
        return joined(greatest_tied(web)) if kind == "led" else barred
    if word == "groups":
        return sets_told(joined(lot) for lot in fewest_groups(web)) if kind == "led" else barred
    return rows_told(web) if word == "rows" else stretches_told(web)


def tie_row(ties, word="tie"):
    """A row of ties, each second one with the greater place ahead."""
    return " ".join([word] + [f"{a}-{b}" if at % 2 else f"{b}-{a}" for at, (a, b) in enumerate(ties)])


def rows_of(web):
    """The rows that tell a web."""
    return [f"web {web[0]}"] + ([tie_row(web[1])] if web[1] else [])


def sheet(*rows):
    return "\n".join(rows)


def asks_of(web, chance):
    """All plain asks, and some of arrows."""
    asks = list(PLAIN)
    arrows = all_arrows(web)
    if arrows:
        for _ in range(3):
            one, other = chance.choice(arrows), chance.choice(arrows)
            asks += [f"way {arrows_told([one, other])}", f"way {arrows_told([one, one])}"]
            asks += [f"way {arrows_told([one, turned(one)])}", f"settled {arrows_told([one])}"]
            asks += [f"settled {arrows_told([one, other, chance.choice(arrows)])}"]
        asks += [f"settled {arrows_told([one, turned(one)])}", f"settled {arrows_told([one, one])}"]
    return asks


class SheetCase(unittest.TestCase):
    def check_web(self, web, chance):
        asks = asks_of(web, chance)
        told = run(sheet(*rows_of(web), *asks))
        self.assertIsInstance(told, list)
        self.assertTrue(all(isinstance(text, str) for text in told))
        self.assertEqual(told, [wanted(web, ask) for ask in asks], web)

    def refused(self, text):
        with self.assertRaises(BadRow) as caught:
            run(text)
        self.assertIs(type(caught.exception), BadRow)
        self.assertIsInstance(caught.exception, TieError)
        self.assertIsInstance(caught.exception, ValueError)
        self.assertIs(type(caught.exception.row), int)
        return caught.exception.row

    def check_answers(self, told_by, **answers):
        """The rows that tell a web, and what each plain ask is answered there."""
        self.assertEqual(sorted(answers), sorted(PLAIN))
        for ask, answer in answers.items():
            self.assertEqual(run(sheet(*told_by, ask)), [answer], (told_by, ask))


class PartsTest(SheetCase):
    def test_small_webs(self):
        chance = Random(41)
        for web in small_webs():
            self.check_web(web, chance)

    def test_webs_of_twelve_places(self):
        chance = Random(42)
        for web in list(twelve_webs()) + [star(12), tied_together(line(4), (4, ()), star(4))]:
            self.check_web(web, chance)

    def test_barred_webs_and_barred_gaps(self):
        chance = Random(43)
        for web in barred_webs():
            self.check_web(web, chance)
            self.check_web(gaps_of(web), chance)

    def test_each_kind_of_web_is_among_them(self):
        kinds = {two_rows(web)[0] for web in list(barred_webs()) + list(twelve_webs())}
        self.assertEqual(kinds, {"rows", "ties", "gaps"})
        kinds = {stretches_for(web)[0] for web in list(barred_webs()) + list(small_webs())}
        self.assertEqual(kinds, {"stretches", "barred", "four"})

    def test_ties_put_in_and_taken_out_between(self):
        chance = Random(44)
        kinds = set()
        for many in list(range(2, 13)) * 4:
            there = []
            rows, answers = [f"web {many}"], []
            for _ in range(11):
                there = self.change(many, there, rows, chance)
                web = (many, tuple(sorted(there)))
                kinds.add(can_be_pointed(web))
                asks = chance.sample(asks_of(web, chance), 3)
                rows += asks
                answers += [wanted(web, ask) for ask in asks]
                if chance.random() < 0.3:
                    rows.append("")
            self.assertLessEqual(len(rows), 60)
            self.assertEqual(run(sheet(*rows)), answers, rows)
        self.assertEqual(kinds, {True, False})

    def change(self, many, there, rows, chance):
        """Puts a row that puts some ties in, or takes some out; tells the ties that are there then."""
        left = [tie for tie in full(many)[1] if tie not in there]
        cutting = there and (not left or chance.random() < 0.4)
        choice = there if cutting else left
        chosen = chance.sample(choice, chance.randrange(1, 4) if len(choice) > 3 else 1)
        rows.append(tie_row(chosen, "cut" if cutting else "tie"))
        return [tie for tie in there if tie not in chosen] if cutting else there + chosen

    def test_a_tie_cut_and_put_in_again(self):
        rows = ("web 3", "count", "tie 0-1", "count", "cut 1-0", "count", "tie 1-0", "led", "cut 0-1", "led")
        self.assertEqual(run(sheet(*rows)), ["1", "2", "1", "0>1", "-"])
        rows = ("web 4", "tie 0-1 2-1", "led", "tie 3-2", "led", "cut 0-1 2-3", "led", "tie 0-1 3-0", "led")
        self.assertEqual(run(sheet(*rows)), ["0>1 2>1", "0>1 2>1 2>3", "1>2", "0>1 0>3 2>1"])

    def test_a_sheet_without_asks(self):
        self.assertEqual(run("web 0"), [])
        self.assertEqual(run("web 12\n"), [])
        self.assertEqual(run("\nweb 2\ntie 0-1\ncut 1-0\n"), [])

    def test_told_lists_are_the_askers_own(self):
        text = sheet(*rows_of(ring(6)), *PLAIN, *PLAIN)
        told = run(text)
        before = list(told)
        told.append("spoilt")
        told.reverse()
        run(sheet("web 2", "tie 0-1", "led"))
        self.assertEqual(run(text), before)
        self.assertEqual(before[:8], before[8:])
        self.assertIsNot(run(text), run(text))


class WrittenTest(SheetCase):
    def test_no_places(self):
        self.check_answers(
            ["web 0"], led="-", classes="-", count="1", parts="-", chain="-", groups="-", rows="- ; -", stretches="-",
        )

    def test_one_place(self):
        self.check_answers(
            ["web 1"], led="-", classes="-", count="1", parts="0", chain="0", groups="0", rows="0 ; 0", stretches="0:0",
        )

    def test_two_places(self):
        self.check_answers(
            ["web 2"], led="-", classes="-", count="1", parts="apart(0 1)", chain="0", groups="0 1", rows="0 1 ; 0 1",
            stretches="0:0 0:0",
        )
        self.check_answers(
            ["web 2", "tie 1-0"], led="0>1", classes="0>1 ; 1>0", count="2", parts="all(0 1)", chain="0 1",
            groups="0 ; 1", rows="0 1 ; 1 0", stretches="0:0 1:1",
        )

    def test_line_of_three(self):
        self.check_answers(
            ["web 3", "tie 0-1 1-2"], led="0>1 2>1", classes="0>1 2>1 ; 1>0 1>2", count="2",
            parts="all(apart(0 2) 1)", chain="0 1", groups="0 2 ; 1", rows="0 2 1 ; 1 0 2", stretches="0:0 1:1 0:0",
        )

    def test_line_of_four(self):
        rows = ["web 4", "tie 3-2 0-1 2-1"]
        self.check_answers(
            rows, led="0>1 2>1 2>3", classes="0>1 2>1 2>3 ; 1>0 1>2 3>2", count="2", parts="close(0 1 2 3)",
            chain="0 1", groups="0 2 ; 1 3", rows="0 2 1 3 ; 1 0 3 2", stretches="0:1 2:2 0:0 1:2",
        )
        asks = ["way 0>1 2>3", "way 2>3 2>3", "way 0>1 1>0", "settled 3>2", "settled 0>1 3>2"]
        told = ["0>1 2>1 2>3", "2>3", "-", "1>0 1>2 3>2", "-"]
        self.assertEqual(run(sheet(*rows, *asks)), told)

    def test_ring_of_four(self):
        self.check_answers(
            ["web 4", "tie 0-1 1-2 2-3 3-0"], led="0>1 0>3 2>1 2>3", classes="0>1 0>3 2>1 2>3 ; 1>0 1>2 3>0 3>2",
            count="2", parts="all(apart(0 2) apart(1 3))", chain="0 1", groups="0 2 ; 1 3", rows="0 2 1 3 ; 1 3 0 2",
            stretches="0:0 1:1 0:0 1:1",
        )

    def test_ring_of_five(self):
        barred = f"barred {ROUND_OF_FIVE}"
        rows = ["web 5", "tie 0-1 1-2 2-3 3-4 4-0"]
        self.check_answers(
            rows, led=barred, classes="0>1 0>4 1>0 1>2 2>1 2>3 3>2 3>4 4>0 4>3", count="0",
            parts="close(0 1 2 3 4)", chain=barred, groups=barred, rows=barred, stretches=barred,
        )
        self.assertEqual(run(sheet(*rows, "way 0>1 1>0", "settled 0>1")), [ROUND_OF_FIVE, "-"])

    def test_ring_of_six(self):
        self.check_answers(
            ["web 6", "tie 0-1 1-2 2-3", "tie 3-4 4-5 5-0"], led="0>1 0>5 2>1 2>3 4>3 4>5",
            classes="0>1 0>5 2>1 2>3 4>3 4>5 ; 1>0 1>2 3>2 3>4 5>0 5>4", count="2", parts="close(0 1 2 3 4 5)",
            chain="0 1", groups="0 2 4 ; 1 3 5", rows="gaps 0>2 0>3 0>4 1>4 1>5 2>5 2>0", stretches="four 0 1 3 4",
        )

    def test_two_ties_apart(self):
        rows = ["web 4", "tie 2-3 1-0"]
        self.check_answers(
            rows, led="0>1 2>3", classes="0>1 ; 1>0 ; 2>3 ; 3>2", count="4", parts="apart(all(0 1) all(2 3))",
            chain="0 1", groups="0 2 ; 1 3", rows="0 1 2 3 ; 1 0 3 2", stretches="four 0 1 2 3",
        )
        self.assertEqual(run(sheet(*rows, "way 0>1 2>3", "settled 1>0 2>3")), ["-", "1>0 2>3"])

    def test_three_tied(self):
        rows = ["web 3", "tie 0-1 0-2 1-2"]
        self.assertEqual(run(sheet(*rows, "settled 2>1 1>0", "settled 2>1 1>0 0>2")), ["1>0 2>0 2>1", "-"])
        self.assertEqual(run(sheet(*rows, "settled 0>1", "count", "parts")), ["0>1", "6", "all(0 1 2)"])

    def test_twelve_places(self):
        up, down = joined(range(12)), joined(range(11, -1, -1))
        self.check_answers(
            rows_of(full(12)), count="479001600", parts=f"all({up})", chain=up, groups=" ; ".join(up.split()),
            rows=f"{up} ; {down}", stretches=joined(f"{k}:{k}" for k in range(12)),
            led=joined(f"{a}>{b}" for a, b in full(12)[1]),
            classes=" ; ".join(f"{a}>{b}" for a in range(12) for b in range(12) if a != b),
        )
        self.check_answers(
            ["web 12"], led="-", classes="-", count="1", parts=f"apart({up})", chain="0", groups=up,
            rows=f"{up} ; {up}", stretches=joined(["0:0"] * 12),
        )


class EmptyRowsTest(SheetCase):
    def test_empty_rows_strewn_in(self):
        chance = Random(45)
        for web in (ring(5), line(4), beside(full(2), full(2)), (0, ()), full(12)):
            rows = rows_of(web) + list(PLAIN)
            told = run(sheet(*rows))
            for _ in range(10):
                strewn = list(rows)
                for _ in range(chance.randrange(12)):
                    strewn.insert(chance.randrange(len(strewn) + 1), "")
                self.assertEqual(run(sheet(*strewn)), told)

    def test_rows_are_counted_with_the_empty_ones(self):
        self.assertEqual(self.refused("\n\nweb 2\n\ntie 0-1\n\n\nbad"), 7)
        self.assertEqual(self.refused("\n\nbad\n\nweb 2"), 2)
        self.assertEqual(self.refused("web 2\n\n\n \n"), 3)

    def test_no_rows_with_signs(self):
        for feeds in (0, 1, 2, 3, 59):
            self.assertEqual(self.refused("\n" * feeds), feeds + 1)


BEYOND = ["tie 0-4", "tie 4-0", "tie 3-12", "tie 0-999", "cut 0-4", "cut 4-0", "way 0>4 0>1", "way 0>1 4>0",
          "settled 0>4", "settled 4>0", "settled 0>1 12>0", "tie 0-3 1-4", "cut 0-1 1-4"]
NOUGHTS = ["tie 00-3", "tie 0-03", "tie 0-003", "cut 00-1", "cut 0-01", "way 00>1 0>1", "way 0>1 0>01", "settled 01>0",
           "tie 000-3", "settled 0>1 1>002"]
FIGURES = ["tie 0-0003", "tie 0000-3", "tie 0-1000", "cut 0001-0", "settled 0>0001", "way 0>1 1>0002", "tie 3000-0"]
SIGNS = ["tie +0-3", "tie 0-+3", "tie -0-3", "tie 0--3", "tie 0-3-", "tie -0", "tie 0-", "tie -", "tie -3", "tie 03",
         "tie 0-3-1", "tie 0-3,", "tie 0-3,1-3", "tie 0-3;", "tie 0-3.", "tie 0_0-3", "tie a-b", "tie 0-x", "tie 3",
         "tie 0- 3", "tie 0 -3", "tie 0 - 3", "tie 0 3", "cut +0-1", "cut 0--1", "cut 0-1-", "cut 0-", "cut 1",
         "way +0>1 0>1", "way 0>>1 0>1", "way 0>1> 0>1", "way > 0>1", "way 0>1>2 0>1", "way 0>1;0>1 1>2",
         "settled >", "settled 0>", "settled >1", "settled 0>-1", "settled 0 > 1", "settled 1", "settled 0>1;",
         "settled 0>1,1>2", "tie 0=3", "tie 0:3", "settled 0<1", "settled 0->1", "tie 0x1-3", "tie 1e0-3"]
ITSELF = ["tie 3-3", "tie 0-0", "cut 0-0", "cut 3-3", "way 0>0 0>1", "way 0>1 1>1", "settled 1>1", "tie 0-3 2-2"]
THERE = ["tie 0-1", "tie 1-0", "tie 0-3 0-1", "tie 2-1 0-3", "tie 0-1 1-2"]
GONE = ["cut 0-3", "cut 3-0", "cut 0-2", "cut 0-1 0-3", "cut 2-0 0-1"]
TWICE = ["tie 0-3 0-3", "tie 0-3 3-0", "tie 0-3 1-3 3-0", "cut 0-1 0-1", "cut 0-1 1-0", "cut 0-1 1-2 0-1"]
GAPS = ["way 0>2 0>1", "way 0>1 0>2", "way 2>0 2>0", "settled 0>2", "settled 0>1 3>0", "settled 2>0 0>1"]
EXCHANGED = ["tie 0>3", "tie 3>0", "cut 0>1", "way 0-1 1-2", "way 0>1 1-2", "way 0-1 1>2", "settled 0-1",
             "settled 0>1 1-2", "tie 0-3 1>3", "cut 0-1 1>2"]
BLANKS = [" led", "led ", " led ", " ", "  ", "   ", "tie  0-3", "tie 0-3  1-3", "tie 0-3 ", " tie 0-3", "cut 0-1 ",
          "cut  0-1", "way 0>1  1>2", "way  0>1 1>2", "way 0>1 1>2 ", " way 0>1 1>2", "settled  0>1", "settled 0>1 ",
          "tie ", "settled ", "cut ", "way ", "count ", " count", "le d"]
TABS = ["\tled", "led\t", "\t", "\t\t", " \t", "\t ", "tie\t0-3", "tie 0-3\t1-3", "tie 0-3\t", "tie\t 0-3",
        "way\t0>1 1>2", "way 0>1\t1>2", "settled\t0>1", "settled 0>1\t", "cut 0-1\t", "cut\t0-1", "tie 0\t-3"]
OTHERS = ["Led", "LED", "leds", "le", "x", "webs 4", "web", "web 4", "web 0", "web 13", "web x", "ties 0-3", "-", "0-1",
          "0>1", "0", "Tie 0-3", "CUT 0-1", "cuts 0-1", "untie 0-1", "chains", "group", "row", "stretch", "class",
          "part", "four", "barred", "gaps", "undo", "~", "!", "led;", "count,parts", "number", "place", "None", "run"]
MANY = (["way", "way 0>1", "way 0>1 1>2 1>0", "settled", "tie", "cut", "tie led", "settled led", "cut 0-1 led"]
        + [f"{word} {more}" for word in PLAIN for more in ("0", "0>1", "0-1", word, "-")])


class BadRowTest(SheetCase):
    def check_bad(self, rows):
        """Each row is refused where it stands, behind asks and empty rows, ahead of other bad ones."""
        for bad in rows:
            good = ["web 4", "tie 0-1", "led", "tie 2-1"]
            self.assertEqual(self.refused(sheet(*good, bad)), 4, bad)
            self.assertEqual(self.refused(sheet(*good, bad, "led", "bad", "count")), 4, bad)
            self.assertEqual(self.refused(sheet("", *good, "", "", "count", bad, "")), 8, bad)
            self.assertEqual(self.refused(sheet(*good, "cut 0-1", "tie 1-0", "rows", bad, bad)), 7, bad)

    def test_places_beyond(self):
        self.check_bad(BEYOND)

    def test_noughts_ahead(self):
        self.check_bad(NOUGHTS)

    def test_four_figures(self):
        self.check_bad(FIGURES)

    def test_signs(self):
        self.check_bad(SIGNS)

    def test_a_tie_of_a_place_with_itself(self):
        self.check_bad(ITSELF)

    def test_ties_that_are_there_or_are_not(self):
        self.check_bad(THERE + GONE + TWICE)

    def test_arrows_of_gaps(self):
        self.check_bad(GAPS)

    def test_minus_and_greater_exchanged(self):
        self.check_bad(EXCHANGED)

    def test_blanks_and_tabs(self):
        self.check_bad(BLANKS + TABS)

    def test_other_words(self):
        self.check_bad(OTHERS)

    def test_too_few_or_too_many_words(self):
        self.check_bad(MANY)

    def test_the_same_rows_without_their_fault(self):
        rows = ("web 4", "tie 0-1", "led", "tie 2-1", "tie 0-3 3-1", "cut 1-0 3-0", "way 1>2 3>1", "settled 1>2 1>2")
        self.assertEqual(len(run(sheet(*rows, *PLAIN))), 3 + len(PLAIN))

    def test_first_rows_that_tell_no_web(self):
        rows = ["web", "web 13", "web 012", "web 00", "web 0012", "web 1000", "web 999", "web -1", "web +1", "web 1 ",
                " web 1", "web  1", "Web 1", "WEB 1", "web 1 2", "web x", "web 1.0", "web1", "web 1-2", "web ", "led",
                "tie 0-1", "count", "cut 0-1", "\tweb 1", "web\t1", "web 1\t", " ", "\t", "x", "4", "web one",
                "way 0>1 0>1", "settled 0>1"]
        for bad in rows:
            self.assertEqual(self.refused(bad), 0, bad)
            self.assertEqual(self.refused(sheet(bad, "web 4", "led")), 0, bad)
            self.assertEqual(self.refused(sheet("", "", bad, "web 4", "bad")), 2, bad)

    def test_webs_of_all_sizes(self):
        for many in range(13):
            self.assertEqual(run(sheet(f"web {many}", "count")), ["1"])
            self.assertEqual(self.refused(sheet(f"web {many}", f"web {many}")), 1)
            self.assertEqual(self.refused(sheet(f"web {many}", "count", f"tie 0-{many}")), 2)
            if many > 1:
                self.assertEqual(run(sheet(f"web {many}", f"tie {many - 1}-0", "count")), ["2"])

    def test_ties_are_judged_as_they_are_at_their_row(self):
        self.assertEqual(self.refused(sheet("web 3", "settled 0>1", "tie 0-1")), 1)
        self.assertEqual(self.refused(sheet("web 3", "tie 0-1", "settled 0>1", "cut 0-1", "settled 0>1")), 4)
        self.assertEqual(self.refused(sheet("web 3", "tie 0-1", "way 1>0 0>1", "cut 1-0", "way 1>0 0>1")), 4)
        self.assertEqual(self.refused(sheet("web 3", "tie 0-1", "cut 0-1", "cut 0-1")), 3)
        self.assertEqual(self.refused(sheet("web 3", "tie 0-1", "cut 0-1", "tie 0-1", "tie 1-0")), 4)

    def test_long_sheets(self):
        rows = ["web 12", tie_row(full(12)[1])] + ["count"] * 57
        self.assertEqual(run(sheet(*rows, "count")), ["479001600"] * 58)
        self.assertEqual(self.refused(sheet(*rows, "count ")), 59)
        text = "web 2" + " " * 2995
        self.assertEqual(self.refused(text), 0)
        self.assertEqual(self.refused("web 2\n" + "9" * 2990), 1)
        self.assertEqual(self.refused("web 2\ntie 0-" + "1" * 2980), 1)


if __name__ == "__main__":
    unittest.main()
