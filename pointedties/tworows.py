"""Two rows for a web: they are there just where both its ties and its gaps can be pointed."""

from pointedties.leading import pointed
from pointedties.pointings import row_by, turned_about
from pointedties.rows import crossed_web, is_row
from pointedties.webfew import greatest_tied
from pointedties.webs import gaps_of


def two_rows(web):
    """("rows", one, other) whose crossed web it is, else ("ties", a round), else ("gaps", a round of the gaps)."""
    kind, by_ties = pointed(web)
    if kind == "barred":
        return ("ties", by_ties)
    kind, by_gaps = pointed(gaps_of(web))
    if kind == "barred":
        return ("gaps", by_gaps)
    # Both together point each two places one way, and never go round, so there is just one row by them.
    return ("rows", row_by(web, by_ties + by_gaps), row_by(web, turned_about(by_ties) + by_gaps))


def shows_rows(web, thing):
    """Whether a thing is a pair of two rows whose crossed web it is."""
    if not isinstance(thing, tuple) or len(thing) != 2:
        return False
    one, other = thing
    return is_row(web[0], one) and is_row(web[0], other) and crossed_web(one, other) == web


def most_apart(web):
    """The rising list of the places of a greatest set without ties; refused with Barred where the gaps are barred."""
    return greatest_tied(gaps_of(web))
