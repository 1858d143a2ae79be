"""All rows of the order behind a led pointing, counted, and told by their numbers."""

# A set of places is one number here, with the bit of each place that is in it: there are far fewer sets of places that
# can stand ahead of the others than rows, so the rows behind each such set are counted once.


def count_rows(web, pointing):
    """How many lists of all places have each arrow's first place ahead of its second one."""
    return rows_behind(needs_by(web[0], pointing), 0, last_set(web[0]))


def row_at(web, pointing, k):
    """The row with the number k, as they rise; None behind the last."""
    needs = needs_by(web[0], pointing)
    known = last_set(web[0])
    if k >= rows_behind(needs, 0, known):
        return None
    placed = 0
    row = []
    while len(row) < web[0]:
        place, k = next_place(needs, placed, known, k)
        row.append(place)
        placed = with_place(placed, place)
    return row


def number_of_row(web, pointing, row):
    """Which of the rows a list of all places is; None where it is none."""
    needs = needs_by(web[0], pointing)
    known = last_set(web[0])
    placed = 0
    number = 0
    for place in row:
        free = free_places(needs, placed)
        if place not in free:
            return None
        lesser = [other for other in free if other < place]
        number += sum([rows_behind(needs, with_place(placed, other), known) for other in lesser])
        placed = with_place(placed, place)
    return number


def often_ahead(web, pointing, a, b):
    """In how many of the rows the place a stands ahead of b."""
    return rows_behind(needs_by(web[0], pointing + ((a, b),)), 0, last_set(web[0]))


def needs_by(many, arrows):
    """For each place the set of the places that must stand ahead of it."""
    needs = [0] * many
    for a, b in arrows:
        needs[b] = with_place(needs[b], a)
    return needs


def with_place(places, place):
    return places | (1 << place)


def last_set(many):
    """The dict of what is known of the rows behind sets of places: one, of none, behind all."""
    return {(1 << many) - 1: 1}


def free_places(needs, placed):
    """The rising list of the places that may stand next behind the set placed."""
    return [
        place for place, ahead in enumerate(needs)
        if with_place(placed, place) != placed and ahead & placed == ahead
    ]


def rows_behind(needs, placed, known):
    """How many rows the places out of the set placed have behind it; what is found is put into known."""
    if placed not in known:
        free = free_places(needs, placed)
        known[placed] = sum([rows_behind(needs, with_place(placed, place), known) for place in free])
    return known[placed]


def next_place(needs, placed, known, k):
    """The place that stands next in the row k of those behind the set placed, and which row it is of those with it."""
    for place in free_places(needs, placed):
        many = rows_behind(needs, with_place(placed, place), known)
        if k < many:
            return (place, k)
        k -= many
    return None
