"""A small checker of chains and lots; it asks the ties alone."""

from pointedties.webs import is_place, is_rising, tied


def shows_longest(web, chain, lots):
    """Whether chain has tied places alone, and as many lots have each place just once: so neither can do better."""
    if not is_all_tied(web, chain) or not isinstance(lots, list) or len(lots) != len(chain):
        return False
    return all(is_lot(web, lot) for lot in lots) and has_each_once(web, lots)


def shows_widest(web, lot, chains):
    """Whether lot has no ties, and as many chains have each place just once: so neither can do better."""
    if not is_lot(web, lot) or not isinstance(chains, list) or len(chains) != len(lot):
        return False
    return all(is_all_tied(web, chain) for chain in chains) and has_each_once(web, chains)


def is_all_tied(web, thing):
    """Whether a thing is a tuple of unlike places, each two tied."""
    if not isinstance(thing, tuple) or not all(is_place(web, place) for place in thing):
        return False
    # No place is tied to itself, so none is there twice.
    return all(tied(web, a, b) for at, a in enumerate(thing) for b in thing[:at])


def is_lot(web, thing):
    """Whether a thing is a rising list of places of which no two are tied."""
    if not isinstance(thing, list) or not all(is_place(web, place) for place in thing):
        return False
    return is_rising(thing) and not any(tied(web, a, b) for a in thing for b in thing)


def has_each_once(web, sets):
    """Whether each place is in just one of some sets of places."""
    # No set is asked whether it is empty: where the other side has as many places, each is in a set of its own.
    return sorted([place for part in sets for place in part]) == list(range(web[0]))
