"""Webs asked for their greatest sets and fewest groups, by their first led pointing."""

from pointedties.leading import first_led
from pointedties.orders import heights, longest_chain, lots_by, widest
from pointedties.pointings import turned_about
from pointedties.webs import is_web


def greatest_tied(web):
    """The rising list of the places of the longest chain: a greatest set of tied places."""
    return sorted(longest_chain(web, first_led(web)))


def fewest_groups(web):
    """The fewest lots that have all places."""
    return lots_by(web, first_led(web))


def greatest_untied(web):
    """How many places a greatest set without ties has."""
    lot, chains = widest(web, first_led(web))
    return len(lot)


def is_shared(web):
    """Whether a place is in all of the greatest sets of tied places."""
    if not is_web(web):
        return False
    pointing = first_led(web)
    tall = heights(web, pointing)
    left = heights(web, turned_about(pointing))
    most = max(tall, default=0)
    # These sets are the longest chains, and each has one place of each height, any that some longest chain has.
    levels = [height for height, more in zip(tall, left) if height + more == most]
    return any(levels.count(level) == 1 for level in levels)
