"""The rows of a sheet, read one by one: the web that they tell, and what they ask of it."""

from pointedties.errors import BadRow
from pointedties.webs import MOST, is_tie, tie_of, tied, with_tie, without_tie

FIGURES = "0123456789"
PLAIN_ASKS = ("led", "classes", "count", "parts", "chain", "groups", "rows", "stretches")


def asks_in(text):
    """The list of the asks of a sheet, each (web, word, arrows) with the web at its row; refused with BadRow."""
    rows = text.split("\n")
    web = None
    asks = []
    for number, row in enumerate(rows):
        if row:
            words = row.split(" ")
            later = web_behind(web, words)
            arrows = None if web is None else asked_arrows(web, words)
            if later is not None:
                web = later
            elif arrows is not None:
                asks.append((web, words[0], arrows))
            else:
                raise BadRow(number)
    if web is None:
        raise BadRow(len(rows))
    return asks


def web_behind(web, words):
    """The web behind a row that begins or changes it; None where the row does neither."""
    if web is None:
        return begun_web(words)
    if words[0] in ("tie", "cut"):
        return changed_web(web, words)
    return None


def begun_web(words):
    if len(words) != 2 or words[0] != "web":
        return None
    many = number_in(words[1])
    return None if many is None or many > MOST else (many, ())


def changed_web(web, words):
    """The web with the ties of a row put in or taken out; None where one of them can't be."""
    putting = words[0] == "tie"
    for word in words[1:]:
        pair = pair_in(word, "-")
        if pair is None:
            return None
        a, b = pair
        # The ties are put in or taken out one by one, so one that is there twice can't be the second time.
        if not is_tie(web[0], tie_of(a, b)) or tied(web, a, b) == putting:
            return None
        web = with_tie(web, tie_of(a, b)) if putting else without_tie(web, tie_of(a, b))
    return web if len(words) > 1 else None


def asked_arrows(web, words):
    """The list of the arrows that an ask has; None where the row is no ask."""
    if words[0] in PLAIN_ASKS:
        return [] if len(words) == 1 else None
    arrows = [arrow_in(web, word) for word in words[1:]]
    if None in arrows:
        return None
    if words[0] == "way":
        return arrows if len(arrows) == 2 else None
    return arrows if words[0] == "settled" and arrows else None


def arrow_in(web, word):
    """The arrow of a tie that is there; None where a word tells none."""
    pair = pair_in(word, ">")
    return pair if pair is not None and tied(web, pair[0], pair[1]) else None


def pair_in(word, sign):
    """The two numbers of a word with a sign between; None where it isn't so written."""
    numbers = [number_in(part) for part in word.split(sign)]
    return None if len(numbers) != 2 or None in numbers else (numbers[0], numbers[1])


def number_in(word):
    """The number that a word tells; None where it isn't so written."""
    if not 1 <= len(word) <= 3 or not all(sign in FIGURES for sign in word):
        return None
    return None if word[0] == "0" and word != "0" else int(word)
