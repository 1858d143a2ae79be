"""Turns: from one led pointing to another one bundle by bundle, so that each turn leaves a led one."""

from pointedties.forcings import bundles, class_of, ties_of
from pointedties.pointings import is_led


def with_turn(web, pointing, tie):
    """The pointing with the bundle of a tie turned."""
    return with_turned(web, pointing, ties_of(class_of(web, tie)))


def may_turn(web, pointing):
    """The rising list of the least ties of all bundles whose turn leaves a led pointing."""
    return [bundle[0] for bundle in led_turns(web, pointing, bundles(web))]


def turns(web, one, other):
    """The first of the shortest lists of turns, told by least ties of bundles, that lead from one to other."""
    pointing = one
    left = unlike_bundles(web, one, other)
    told = []
    while left:
        # Some bundle that is still otherwise may always be turned, and each such turn leaves one less to do, so the
        # least one may always go first.
        bundle = led_turns(web, pointing, left)[0]
        pointing = with_turned(web, pointing, bundle)
        told.append(bundle[0])
        left = [later for later in left if later != bundle]
    return told


def many_turns(web, one, other):
    """How few turns lead from one to other."""
    return len(unlike_bundles(web, one, other))


def with_turned(web, pointing, ties):
    """The pointing with the arrows of some ties turned."""
    turned = {tie: True for tie in ties}
    return tuple([(b, a) if tie in turned else (a, b) for tie, (a, b) in zip(web[1], pointing)])


def led_turns(web, pointing, choice):
    """Those bundles of a choice whose turn leaves a led pointing."""
    return [bundle for bundle in choice if is_led(web, with_turned(web, pointing, bundle))]


def unlike_bundles(web, one, other):
    """The bundles that go otherwise in two led pointings, as they rise."""
    unlike = {tie: True for tie, arrow, later in zip(web[1], one, other) if arrow != later}
    # A led pointing has all arrows of a class, or none, so one tie of a bundle tells for all.
    return [bundle for bundle in bundles(web) if bundle[0] in unlike]
