"""Rows: where a step leads from each stand. The lot at index s holds the next stands of stand s."""

from truealarms.errors import BadRow
from truealarms.lots import all_stands, check_lot, check_stands
from truealarms.wholes import is_sequence, is_whole

MOST_ROWS = 8


def check_row(stands, row):
    """Return a row of so many stands as a tuple."""
    every = all_stands(stands)
    if not is_sequence(row) or len(row) != stands:
        raise BadRow(None)
    for place, lot in enumerate(row):
        if not is_whole(lot, 0, every):
            raise BadRow(place)
    return tuple(row)


def check_rows(stands, rows):
    """Return a sequence of rows of so many stands as a tuple."""
    check_stands(stands)
    if not is_sequence(rows) or len(rows) > MOST_ROWS:
        raise BadRow(None)
    return tuple([check_row(stands, row) for row in rows])


def next_lot(row, lot):
    """The lot of all next stands of the stands in the lot."""
    reached = 0
    for stand, following in enumerate(row):
        if lot >> stand & 1:
            reached |= following
    return reached


def back_lot(row, lot):
    """The lot of all stands whose next stands all lie in the lot."""
    kept = 0
    for stand, following in enumerate(row):
        if following & ~lot == 0:
            kept |= 1 << stand
    return kept


def test_row(stands, lot):
    """The row of a step that keeps a lot and leads nowhere from other stands."""
    check_lot(stands, lot)
    return tuple([lot & (1 << stand) for stand in range(stands)])


def joined_row(one, other):
    """The row that leads to all stands that one or other leads to."""
    return tuple([first | second for first, second in zip(one, other)])


def behind_row(one, other):
    """The row of one's step followed by other's step."""
    return tuple([next_lot(other, lot) for lot in one])
