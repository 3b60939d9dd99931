"""Two names: each has stands of its own, and a pair has one stand for each two of them."""

from truealarms.errors import BadPair, BadRow, BadSide
from truealarms.lots import all_stands, check_lot
from truealarms.rows import check_row
from truealarms.wholes import is_sequence, is_whole

FEWEST_OF_NAME = 2
MOST_OF_NAME = 3
MOST_OF_PAIR = 6


def _check_numbers(first, second):
    if not is_whole(first, FEWEST_OF_NAME, MOST_OF_NAME):
        raise BadPair("first")
    if not is_whole(second, FEWEST_OF_NAME, MOST_OF_NAME):
        raise BadPair("second")
    if first * second > MOST_OF_PAIR:
        raise BadPair("both")


class Pair:
    """Two names, by how many stands each has. The stand of x and y is x * second + y."""

    def __init__(self, first, second):
        _check_numbers(first, second)
        self.first = first
        self.second = second
        self.stands = first * second

    def __eq__(self, other):
        return isinstance(other, Pair) and self.first == other.first and self.second == other.second


def _stands_of_name(pair, which):
    """How many stands a name has."""
    if not is_whole(which, 0, 1):
        raise BadSide()
    return pair.second if which == 1 else pair.first


def _parts_of(pair, stand):
    """The stands of the two names that a stand of the pair is made of."""
    return divmod(stand, pair.second)


def _projected(pair, lot, which):
    projected = 0
    for stand in range(pair.stands):
        if lot >> stand & 1:
            projected |= 1 << _parts_of(pair, stand)[which]
    return projected


def _box(pair, one, other):
    lot = 0
    for x in range(pair.first):
        if one >> x & 1:
            lot |= other << x * pair.second
    return lot


def project_lot(pair, lot, which):
    """The stands of a name that occur in a lot of the pair."""
    check_lot(pair.stands, lot)
    _stands_of_name(pair, which)
    return _projected(pair, lot, which)


def box_of(pair, one, other):
    """The lot of all stands of x in a lot of the first name and y in one of the second name."""
    check_lot(pair.first, one)
    check_lot(pair.second, other)
    return _box(pair, one, other)


def boxed_lot(pair, lot):
    """The least box that holds a lot of the pair."""
    check_lot(pair.stands, lot)
    return _box(pair, _projected(pair, lot, 0), _projected(pair, lot, 1))


def is_box(pair, lot):
    """Whether a lot of the pair is a box."""
    return boxed_lot(pair, lot) == lot


def _changed(pair, stand, which, lot):
    """The stands that come of a stand when one of its two parts is changed to those of a lot."""
    x, y = _parts_of(pair, stand)
    return _box(pair, 1 << x, lot) if which == 1 else _box(pair, lot, 1 << y)


def side_row(pair, which, row):
    """The row of the pair that changes one name by a row of this name, and keeps the other name."""
    checked = check_row(_stands_of_name(pair, which), row)
    table = [checked[_parts_of(pair, stand)[which]] for stand in range(pair.stands)]
    return cross_row(pair, which, table)


def cross_row(pair, which, table):
    """The row of the pair that changes one name as the table tells for each stand, and keeps the other name."""
    every = all_stands(_stands_of_name(pair, which))
    if not is_sequence(table) or len(table) != pair.stands:
        raise BadRow(None)
    for place, lot in enumerate(table):
        if not is_whole(lot, 0, every):
            raise BadRow(place)
    return tuple([_changed(pair, stand, which, lot) for stand, lot in enumerate(table)])
