"""A web that is kept while places and ties are put in, ties are taken out, and changes are taken back."""

from pointedties.errors import Full, NoPlace, NoTie, Tied
from pointedties.forcings import classes
from pointedties.leading import first_led, pointed
from pointedties.ways import count_ways
from pointedties.webs import MOST, is_place, tie_of, tied, with_tie, without_tie


class Kept:
    """A web of so many places, at first without ties."""

    def __init__(self, many):
        # The webs ahead of each change that is still done, and the web now.
        self.webs = [(many, ())]
        # The arrows of the first led pointing when the web last was led in time, be it behind a change or an undo.
        self.arrows = {}

    def put_place(self):
        """Puts in one place more, and tells its number."""
        many, ties = self.web_now()
        if many >= MOST:
            raise Full("there is no room for one place more")
        # The arrows stay what they are, led or not, as the new place has no ties.
        self.webs.append((many + 1, ties))
        return many

    def put_tie(self, a, b):
        """Puts in a tie, and tells which other ones it turned, or the round that bars the web now."""
        web = self.web_now()
        check_places(web, a, b)
        if tied(web, a, b):
            raise Tied(f"{a} and {b} are tied already")
        self.webs.append(with_tie(web, tie_of(a, b)))
        return self.look_again()

    def cut_tie(self, a, b):
        """Takes out a tie, and tells which other ones that turned, or the round that bars the web now."""
        web = self.web_now()
        check_places(web, a, b)
        if not tied(web, a, b):
            raise NoTie(f"{a} and {b} are not tied")
        self.webs.append(without_tie(web, tie_of(a, b)))
        return self.look_again()

    def web_now(self):
        """The web."""
        return self.webs[-1]

    def pointing_now(self):
        """Its first led pointing; refused with Barred where a round bars any."""
        return first_led(self.web_now())

    def classes_now(self):
        """Its classes."""
        return classes(self.web_now())

    def count_now(self):
        """How many led pointings it has."""
        return count_ways(self.web_now())

    def undo(self):
        """Takes the last change that is still done back, and tells the web then; None where there is none."""
        if len(self.webs) == 1:
            return None
        self.webs.pop()
        self.look_again()
        return self.web_now()

    def look_again(self):
        """What pointed tells of the web now, but, of a led one, the ties that go otherwise than when it last was."""
        kind, found = pointed(self.web_now())
        if kind == "barred":
            return (kind, found)
        told = [tie_of(a, b) for a, b in found if (b, a) in self.arrows]
        self.arrows = {arrow: True for arrow in found}
        return (kind, told)


def check_places(web, a, b):
    if not is_place(web, a) or not is_place(web, b) or a == b:
        raise NoPlace(f"{a} and {b} are not two places")
