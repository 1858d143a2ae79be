"""The order behind a led pointing: its chains, and the lots that no ties join."""

from pointedties.pointings import ends_from
from pointedties.weighed import heaviest_chain, weighed_heights


def heights(web, pointing):
    """For each place one less than how many places the longest chain has that ends there."""
    return [height - 1 for height in weighed_heights(web, pointing, [1] * web[0])]


def longest_chain(web, pointing):
    """The chain with the most places, the first of several as tuples rise; () of no places."""
    return heaviest_chain(web, pointing, [1] * web[0])


def lots_by(web, pointing):
    """The list of the lots of the places of height 0, 1 and so on."""
    tall = heights(web, pointing)
    levels = max(tall, default=-1) + 1
    return [[place for place in range(web[0]) if tall[place] == level] for level in range(levels)]


def widest(web, pointing):
    """A lot with the most places, and a list of as many chains such that each place is in just one."""
    ends = ends_from(web[0], pointing)
    ahead = {}
    for place in range(web[0]):
        put_behind(ends, ahead, place, {})
    behind = {one: other for other, one in ahead.items()}
    chains = [chain_from(behind, place) for place in range(web[0]) if place not in ahead]
    return (lot_across(ends, ahead, behind), chains)


def put_behind(ends, ahead, place, tried):
    """Whether a place can get one next behind it in its chain; others get another one in exchange where they must."""
    for end in ends[place]:
        if end not in tried:
            tried[end] = True
            if end not in ahead or put_behind(ends, ahead, ahead[end], tried):
                ahead[end] = place
                return True
    return False


def chain_from(behind, place):
    chain = [place]
    while chain[-1] in behind:
        chain.append(behind[chain[-1]])
    return tuple(chain)


def lot_across(ends, ahead, behind):
    """The lot with a place of each chain, where no other joining leaves fewer chains."""
    waiting = [place for place in range(len(ends)) if place not in behind]
    freed = {place: True for place in waiting}
    passed = {}
    # Each place that is passed has one ahead of it in its chain: were there none, one chain fewer would do.
    while waiting:
        place = waiting.pop()
        for end in ends[place]:
            if end not in passed:
                passed[end] = True
                freed[ahead[end]] = True
                waiting.append(ahead[end])
    return [place for place in range(len(ends)) if place in freed and place not in passed]
