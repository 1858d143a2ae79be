import unittest
from itertools import product

from pointedties.leading import pointed
from pointedties.pointings import turned_about
from pointedties.turncheck import shows_turns
from pointedties.turning import may_turn, turns, with_turn
from pointedties.ways import all_ways
from tests.samples import (
    beside, bundles_by_words, full, groups, is_led_by_words, is_number_by_words, line, odd_things, ring, small_webs,
    star, tied_together, turned, twelve_webs,
)

WEBS = (
    line(2), line(3), line(4), ring(4), full(3), full(4), star(4), groups(1, 2, 2), beside(line(2), line(3)),
    beside(full(3), line(2)), tied_together(line(4), (1, ())),
)


def shown_by_words(web, one, other, thing):
    """Whether a thing is turns from one to other, by the words of point [15]."""
    if not isinstance(thing, list):
        return False
    leasts = {bundle[0]: bundle for bundle in bundles_by_words(web)}
    pointing = one
    for tie in thing:
        if not isinstance(tie, tuple) or not all(is_number_by_words(place) for place in tie) or tie not in leasts:
            return False
        pointing = tuple(turned(arrow) if tuple(sorted(arrow)) in leasts[tie] else arrow for arrow in pointing)
        if not is_led_by_words(pointing):
            return False
    return pointing == other


def told_turns():
    """Webs with two led pointings each, and the turns from one to the other."""
    for web in WEBS:
        led = all_ways(web)
        for one in led[::7]:
            for other in led[::5] + [turned_about(one)]:
                yield web, one, other, turns(web, one, other)


def spoilt(web, told):
    """Turns spoilt in one thing, in manners that leave none."""
    yield from (tuple(told), [told], (told,), [tuple(told)], str(told), None, True, 0, "", ())
    if told:
        yield [list(tie) for tie in told]
    for at, (a, b) in enumerate(told):
        for thing in no_ties(web, a, b):
            yield told[:at] + [thing] + told[at + 1:]
            yield told[:at] + [thing] + told[at:]
    for end in (None, [], (), 0, True, "", told, tuple(told), ((),), [(0, 1)], (0,), (0, 0), (0, web[0])):
        yield told + [end]
        yield [end] + told


def no_ties(web, a, b):
    """Things that look like the tie (a, b) or like another one, and are no least tie of a bundle."""
    yield from ([a, b], (b, a), (a, a), (a,), (a, b, b), ((a, b),), [(a, b)], f"{a}-{b}", (f"{a}", b), (a, f"{b}"))
    yield from ((a, [b]), ((a,), b), (None, b), (a, None), (a, web[0] + b), (a - web[0], b), (a, 10 ** 30), a, b)
    if a in (0, 1):
        yield (bool(a), b)
    if b == 1:
        yield (a, True)
    leasts = [bundle[0] for bundle in bundles_by_words(web)]
    yield from [tie for tie in full(web[0])[1] if tie not in leasts]


class ShowsTurnsTest(unittest.TestCase):
    def check(self, web, one, other, thing):
        self.assertIs(shows_turns(web, one, other, thing), shown_by_words(web, one, other, thing), (web, one, thing))

    def test_told_turns(self):
        for web, one, other, told in told_turns():
            self.assertIs(shows_turns(web, one, other, told), True, (web, told))
            self.assertIs(shows_turns(web, other, one, told[::-1]), True, (web, told))

    def test_told_turns_of_twelve_places(self):
        for web in twelve_webs():
            one = pointed(web)[1]
            other = turned_about(one)
            told = turns(web, one, other)
            self.assertIs(shows_turns(web, one, other, told), True, web)
            self.assertIs(shows_turns(web, other, one, told[::-1]), True, web)
            self.assertIs(shows_turns(web, one, one, told + told[::-1]), True, web)
            if told:
                self.assertIs(shows_turns(web, one, one, told), False, web)
                self.assertIs(shows_turns(web, one, other, told[:-1]), False, web)
                self.assertIs(shows_turns(web, one, other, told[1:]), False, web)

    def test_longer_ones_that_go_there_and_back(self):
        for web, one, other, told in told_turns():
            self.assertIs(shows_turns(web, one, one, told + told[::-1]), True)
            self.assertIs(shows_turns(web, one, other, told + (told[::-1] + told) * 3), True)
            pointing = one
            for at in range(len(told) + 1):
                for tie in may_turn(web, pointing):
                    longer = told[:at] + [tie, tie] + told[at:]
                    self.assertIs(shows_turns(web, one, other, longer), True, (web, longer))
                if at < len(told):
                    pointing = with_turn(web, pointing, told[at])

    def test_by_another_way_round(self):
        web = full(3)
        up, down = web[1], turned_about(web[1])
        for told in ([(0, 1), (0, 2), (1, 2)], [(1, 2), (0, 2), (0, 1)]):
            self.assertIs(shows_turns(web, up, down, told), True)
        # All six in a round.
        rounds = [(0, 1), (0, 2), (1, 2), (0, 1), (0, 2), (1, 2)]
        self.assertIs(shows_turns(web, up, up, rounds), True)
        self.assertIs(shows_turns(web, up, down, rounds), False)

    def test_each_list_of_ties_of_small_webs(self):
        for web in (line(2), line(3), full(3), beside(line(2), line(2)), beside(line(2), line(3)), groups(1, 2, 1)):
            led = all_ways(web)
            for many in range(4):
                for ties in product(web[1], repeat=many):
                    for other in led:
                        self.check(web, led[0], other, list(ties))

    def test_none_at_all(self):
        for web in small_webs():
            led = all_ways(web)
            for other in led[:5]:
                self.assertIs(shows_turns(web, led[0], other, []), other == led[0], (web, other))

    def test_spoilt_in_one_thing(self):
        for web, one, other, told in told_turns():
            for thing in spoilt(web, told):
                self.assertIs(shows_turns(web, one, other, thing), False, (web, one, other, thing))

    def test_a_tie_left_out_or_twice(self):
        for web, one, other, told in told_turns():
            for at in range(len(told)):
                # Behind either, one bundle goes otherwise than it must.
                self.assertIs(shows_turns(web, one, other, told[:at] + told[at + 1:]), False)
                self.assertIs(shows_turns(web, one, other, told[:at + 1] + told[at:]), False)

    def test_a_turn_that_leaves_no_led_one(self):
        many = 0
        for web, one, other, told in told_turns():
            leasts = [bundle[0] for bundle in bundles_by_words(web)]
            for tie in [tie for tie in leasts if tie not in may_turn(web, one)]:
                # There and back at once: the end is right, the step between isn't.
                self.assertIs(shows_turns(web, one, other, [tie, tie] + told), False, (web, tie))
                many += 1
        self.assertGreater(many, 50)
        web = full(3)
        self.assertIs(shows_turns(web, web[1], turned_about(web[1]), [(0, 2), (0, 1), (1, 2)]), False)
        self.assertIs(shows_turns(web, web[1], turned_about(web[1]), [(0, 1), (1, 2), (0, 2)]), False)

    def test_a_tie_that_is_not_the_least_of_its_bundle(self):
        web = line(4)
        one, other = all_ways(web)
        self.assertIs(shows_turns(web, one, other, [(0, 1)]), True)
        self.assertIs(shows_turns(web, one, other, [(1, 2)]), False)
        self.assertIs(shows_turns(web, one, other, [(2, 3)]), False)
        self.assertIs(shows_turns(web, one, one, [(0, 1), (1, 2)]), False)

    def test_turns_of_other_pointings(self):
        for web in WEBS:
            led = all_ways(web)[:8]
            for one, other, later in product(led, repeat=3):
                told = turns(web, one, other)
                self.assertIs(shows_turns(web, one, later, told), later == other)
                self.check(web, later, other, told)

    def test_things_of_any_kind(self):
        for web in ((0, ()), (1, ()), (4, ()), line(2), full(3), line(4)):
            led = all_ways(web)
            one, other = led[0], led[-1]
            told = turns(web, one, other)
            for thing in odd_things():
                for asked in (thing, [thing], told + [thing], [thing] + told, [(thing, 1)], [(0, thing)], (thing, told)):
                    self.check(web, one, other, asked)
                    self.check(web, one, one, asked)


if __name__ == "__main__":
    unittest.main()
