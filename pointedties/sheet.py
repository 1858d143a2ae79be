"""Sheets: a web told by rows of words, and the answers to what they ask of it."""

from pointedties.errors import Barred
from pointedties.forcings import classes, forcing_way
from pointedties.leading import first_led, settled
from pointedties.modules import parts_of
from pointedties.sheetread import asks_in
from pointedties.stretches import stretches_for
from pointedties.tworows import two_rows
from pointedties.ways import count_ways
from pointedties.webfew import fewest_groups, greatest_tied


def led_text(web):
    return arrows_text(first_led(web))


def classes_text(web):
    return sets_text([arrows_text(members) for members in classes(web)])


def count_text(web):
    return str(count_ways(web))


def parts_text(web):
    tree = parts_of(web)
    return "-" if tree is None else tree_text(tree)


def chain_text(web):
    return places_text(greatest_tied(web))


def groups_text(web):
    return sets_text([places_text(lot) for lot in fewest_groups(web)])


def rows_text(web):
    told = two_rows(web)
    if told[0] == "ties":
        return barred_text(told[1])
    if told[0] == "gaps":
        return f"gaps {arrows_text(told[1])}"
    return sets_text([places_text(told[1]), places_text(told[2])])


def stretches_text(web):
    kind, found = stretches_for(web)
    if kind == "barred":
        return barred_text(found)
    if kind == "four":
        return f"four {places_text(found)}"
    return words_text([f"{begin}:{end}" for begin, end in found])


def barred_text(ring):
    return f"barred {arrows_text(ring)}"


def tree_text(tree):
    kind, inside = tree
    if kind == "place":
        return str(inside)
    within = " ".join([tree_text(part) for part in inside])
    return f"{kind}({within})"


def arrows_text(arrows):
    """The text of arrows; of None, too."""
    return "-" if arrows is None else words_text([f"{a}>{b}" for a, b in arrows])


def places_text(places):
    return words_text([str(place) for place in places])


def words_text(words):
    return " ".join(words) if words else "-"


def sets_text(texts):
    return " ; ".join(texts) if texts else "-"


PLAIN_ANSWERS = {
    "led": led_text, "classes": classes_text, "count": count_text, "parts": parts_text, "chain": chain_text,
    "groups": groups_text, "rows": rows_text, "stretches": stretches_text,
}


def run(text):
    """The list of the answers to a sheet, a text for each ask; refused with BadRow, ahead of all answers."""
    return [answer(web, word, arrows) for web, word, arrows in asks_in(text)]


def answer(web, word, arrows):
    if word == "way":
        return arrows_text(forcing_way(web, arrows[0], arrows[1]))
    if word == "settled":
        return arrows_text(settled(web, arrows))
    tell = PLAIN_ANSWERS[word]
    try:
        return tell(web)
    except Barred as error:
        return barred_text(error.ring)
