"""Pointed or barred: the first led pointing of a web, or a round that bars any."""

from pointedties.errors import Barred
from pointedties.forcings import classes_in, forcings_of, way_in


def pointed(web):
    """("led", the first led pointing), or ("barred", the round of the least tie that has one)."""
    forcings = forcings_of(web)
    ring = first_round(forcings)
    if ring is not None:
        return ("barred", ring)
    return ("led", filled(web, forcings, {}))


def first_led(web):
    """The first led pointing of a web; refused with Barred where a round bars any."""
    kind, found = pointed(web)
    if kind == "barred":
        raise Barred(found)
    return found


def can_be_pointed(web):
    """Whether a web has a led pointing."""
    return first_round(forcings_of(web)) is None


def settled(web, arrows):
    """The rising list of the arrows that are in each led pointing with these arrows; None if there is none."""
    known = known_by(forcings_of(web), arrows)
    return None if known is None else sorted(known)


def extended(web, arrows):
    """The first led pointing with these arrows; None if there is none."""
    forcings = forcings_of(web)
    known = known_by(forcings, arrows)
    return None if known is None else filled(web, forcings, known)


def first_round(forcings):
    """The round of the least tie that has one; None if there is none."""
    # A class with one arrow both ways has all its arrows so: its least one goes up, and classes rise by these.
    for arrows in classes_in(forcings):
        a, b = arrows[0]
        if (b, a) in arrows:
            return way_in(forcings, (a, b), (b, a))
    return None


def known_by(forcings, arrows):
    """All that arrows settle, as a dict of True; None where no led pointing has them."""
    if first_round(forcings) is not None:
        return None
    known = {}
    for a, b in arrows:
        if (b, a) in known:
            return None
        follow(forcings, known, (a, b))
    return known


def follow(forcings, known, arrow):
    """Puts an arrow into known, and all that it leads to together with what is known."""
    # A tie that closed known ones leave open may go either way in a web without rounds. So some led pointing has all
    # that is found here: no two arrows go against one another, and no third one has a gap in its stead.
    waiting = [arrow]
    while waiting:
        a, b = waiting.pop()
        if (a, b) not in known:
            known[(a, b)] = True
            waiting.extend(forcings[(a, b)])
            waiting.extend(thirds(known, a, b))


def thirds(known, a, b):
    """The arrows that lead straight where the one from a to b leads together with a known one."""
    ahead = [(c, b) for c, d in known if d == a]
    behind = [(a, d) for c, d in known if c == b]
    return ahead + behind


def filled(web, forcings, known):
    """The first led pointing that has all known arrows, where what they lead to is among them."""
    for a, b in web[1]:
        if (b, a) not in known:
            follow(forcings, known, (a, b))
    return pointing_of(web, known)


def pointing_of(web, known):
    """The pointing whose arrows are known, one for each tie."""
    return tuple([(a, b) if (a, b) in known else (b, a) for a, b in web[1]])
