"""Named steps: each name has a row."""

from truealarms.errors import BadRow, BadSteps, NoStep
from truealarms.lots import MOST_STANDS
from truealarms.rows import check_row
from truealarms.wholes import is_sequence, is_whole

MOST_ENTRIES = 20
LONGEST_NAME = 8
LETTERS = "abcdefghijklmnopqrstuvwxyz"
# This word is the text of the program that takes no step.
NO_NAME = "nothing"


def _is_name(thing):
    """Whether a thing of any kind can be the name of a step."""
    if not isinstance(thing, str) or thing == NO_NAME:
        return False
    return 1 <= len(thing) <= LONGEST_NAME and all([sign in LETTERS for sign in thing])


def _checked_row(stands, row, place):
    try:
        return check_row(stands, row)
    except BadRow as fault:
        what = "row" if fault.place is None else "lot"
        raise BadSteps(what, place) from None


def _checked_rows(stands, entries):
    """The rows by their names, in the order of the entries; the first fault is raised."""
    if not is_whole(stands, 1, MOST_STANDS):
        raise BadSteps("stands", 0)
    if not is_sequence(entries) or len(entries) > MOST_ENTRIES:
        raise BadSteps("entries", 0)
    rows = {}
    for place, entry in enumerate(entries):
        if not is_sequence(entry) or len(entry) != 2 or not _is_name(entry[0]) or entry[0] in rows:
            raise BadSteps("name", place)
        rows[entry[0]] = _checked_row(stands, entry[1], place)
    return rows


class Steps:
    """Named steps over a number of stands, in the order of their entries."""

    def __init__(self, stands, entries):
        rows = _checked_rows(stands, entries)
        self.stands = stands
        self.names = tuple(rows)
        self.rows = tuple(rows.values())

    def row_of(self, name):
        """The row of a name."""
        if name not in self:
            raise NoStep(name)
        return self.rows[self.names.index(name)]

    def with_row(self, name, row):
        """New steps in which this name has this row."""
        entries = list(zip(self.names, self.rows))
        if name in self:
            entries[self.names.index(name)] = (name, row)
        else:
            entries.append((name, row))
        return Steps(self.stands, entries)

    def __contains__(self, name):
        return isinstance(name, str) and name in self.names

    def __eq__(self, other):
        return (isinstance(other, Steps) and self.stands == other.stands
                and self.names == other.names and self.rows == other.rows)
