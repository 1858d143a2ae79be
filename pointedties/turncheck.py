"""A small checker of turns; it does them one by one, and asks after each whether the pointing is led."""

from pointedties.forcings import bundles
from pointedties.kinds import is_pair
from pointedties.pointings import is_led
from pointedties.turning import with_turned


def shows_turns(web, one, other, thing):
    """Whether a thing is a list of least ties of bundles whose turns lead from one to other by led pointings alone."""
    if not isinstance(thing, list):
        return False
    by_least = {bundle[0]: bundle for bundle in bundles(web)}
    pointing = one
    for tie in thing:
        if not is_pair(tie) or tie not in by_least:
            return False
        pointing = with_turned(web, pointing, by_least[tie])
        if not is_led(web, pointing):
            return False
    return pointing == other
