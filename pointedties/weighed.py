"""Weights on the places of a led pointing: the heaviest chain, and lots that have each place as often as it weighs."""

from pointedties.pointings import ends_from, row_by, turned_about


def weighed_heights(web, pointing, weights):
    """For each place the greatest weight of a chain that ends there."""
    begins = ends_from(web[0], turned_about(pointing))
    told = [0] * web[0]
    for place in row_by(web, pointing):
        told[place] = weights[place] + max([told[begin] for begin in begins[place]], default=0)
    return told


def heaviest_chain(web, pointing, weights):
    """The chain of the greatest weight, the first of several as tuples rise; () of no places."""
    if web[0] == 0:
        return ()
    # The greatest weight of a chain that begins at each place.
    left = weighed_heights(web, turned_about(pointing), weights)
    ends = ends_from(web[0], pointing)
    place = left.index(max(left))
    chain = [place]
    rest = left[place] - weights[place]
    # A chain stands ahead of itself with more places, so it ends as soon as it has all its weight.
    while rest > 0:
        place = min([end for end in ends[place] if left[end] == rest])
        chain.append(place)
        rest -= weights[place]
    return tuple(chain)


def weighed_lots(web, pointing, weights):
    """The list of pairs (lot, times) by rising levels: a place has as many levels, up to its height, as it weighs."""
    spans = [(height - weight, height) for height, weight in zip(weighed_heights(web, pointing, weights), weights)]
    # The lot changes just where a place with some weight begins or ends.
    bounds = sorted({bound for low, high in spans if low < high for bound in (low, high)})
    return [(lot_at(spans, low), high - low) for low, high in zip(bounds, bounds[1:])]


def lot_at(spans, level):
    """The rising list of the places whose levels have this one among them."""
    return [place for place, (low, high) in enumerate(spans) if low <= level < high]
