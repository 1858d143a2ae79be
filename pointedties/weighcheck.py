"""A small checker of heaviest chains and their lots; it asks the ties and the weights alone."""

from pointedties.kinds import is_number
from pointedties.ordercheck import is_all_tied, is_lot


def shows_weighed(web, weights, chain, lots):
    """Whether chain has tied places alone, and lots of as much time have each place as often as it weighs."""
    if not is_all_tied(web, chain) or not isinstance(lots, list) or not all(is_timed(web, part) for part in lots):
        return False
    often = [sum([times for lot, times in lots if place in lot]) for place in range(web[0])]
    if any(many < weight for many, weight in zip(often, weights)):
        return False
    return sum([times for lot, times in lots]) == sum([weights[place] for place in chain])


def is_timed(web, thing):
    """Whether a thing is a tuple of a lot that isn't empty and a number above 0."""
    if not isinstance(thing, tuple) or len(thing) != 2:
        return False
    lot, times = thing
    return is_lot(web, lot) and len(lot) > 0 and is_number(times) and times > 0
