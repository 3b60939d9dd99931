"""Ways: what shows that a stand is in a true end."""

from truealarms.errors import BadStand, NoWay
from truealarms.lots import check_lot, stands_of
from truealarms.programs import check_program, steps_in
from truealarms.trueends import composed_row
from truealarms.wholes import is_whole


class Way:
    """A start, the names of the steps taken, and the stand come to by each of them."""

    def __init__(self, start, names, stands):
        self.start = start
        self.names = names
        self.stands = stands


def _check_asked(steps, program, lot, stand):
    check_program(steps, program)
    check_lot(steps.stands, lot)
    if not is_whole(stand, 0, steps.stands - 1):
        raise BadStand(stand)


# A track is a tuple (number of steps, names, stands); None stands for no track. A table holds at
# [start][end] the least track of a program. The least track behind a middle stand is the least one
# up to it and the least one from it, so the table of a program is made of those of its inner programs.

def _lesser(one, other):
    """The lesser one of two tuples or Nones."""
    if one is None or other is None:
        return other if one is None else one
    return min(one, other)


def _joined(one, other):
    """One track followed by another one."""
    if one is None or other is None:
        return None
    return (one[0] + other[0], one[1] + other[1], one[2] + other[2])


def _step_table(name, row):
    stands = range(len(row))
    return [[(1, (name,), (end,)) if lot >> end & 1 else None for end in stands] for lot in row]


def _nothing_table(many):
    stands = range(many)
    return [[(0, (), ()) if start == end else None for end in stands] for start in stands]


def _lesser_table(one, other):
    return [[_lesser(first, second) for first, second in zip(line, row)] for line, row in zip(one, other)]


def _least_by_middles(tracks, other, end):
    """The least track to the end: one of the tracks to a middle stand, and on from there."""
    best = None
    for middle, track in enumerate(tracks):
        best = _lesser(best, _joined(track, other[middle][end]))
    return best


def _behind_table(one, other):
    stands = range(len(one))
    return [[_least_by_middles(tracks, other, end) for end in stands] for tracks in one]


def _again_table(inner):
    table = _nothing_table(len(inner))
    while True:
        longer = _lesser_table(table, _behind_table(table, inner))
        if longer == table:
            return table
        table = longer


def _least_tracks(steps, program):
    """The table of a program."""
    shape = program[0]
    if shape == "step":
        return _step_table(program[1], steps.row_of(program[1]))
    if shape == "nothing":
        return _nothing_table(steps.stands)
    left = _least_tracks(steps, program[1])
    if shape == "again":
        return _again_table(left)
    right = _least_tracks(steps, program[2])
    return _behind_table(left, right) if shape == "behind" else _lesser_table(left, right)


def way_to(steps, program, lot, stand):
    """The way with the fewest steps from the lot to the stand; then the least start, names and stands."""
    _check_asked(steps, program, lot, stand)
    table = _least_tracks(steps, program)
    best = None
    for start in stands_of(lot):
        track = table[start][stand]
        if track is not None:
            best = _lesser(best, (track[0], start, track[1], track[2]))
    if best is None:
        raise NoWay(stand)
    return Way(best[1], best[2], best[3])


def _are_names(steps, names):
    return isinstance(names, tuple) and all([name in steps for name in names])


def _are_taken(steps, way):
    """Whether each stand is a next one of the one before it, by the step of its name."""
    if not isinstance(way.stands, tuple) or len(way.stands) != len(way.names):
        return False
    before = way.start
    for name, stand in zip(way.names, way.stands):
        if not is_whole(stand, 0, steps.stands - 1) or not steps.row_of(name)[before] >> stand & 1:
            return False
        before = stand
    return True


def _is_run(program, names):
    """Whether the names are a run of the program."""
    # The numbers of names taken so far serve as stands: a step leads from k to k + 1 if its name is due.
    rows = {}
    for name in steps_in(program):
        rows[name] = [2 << taken if due == name else 0 for taken, due in enumerate(names)] + [0]
    ends = composed_row(rows, len(names) + 1, program)[0]
    return ends >> len(names) & 1 == 1


def way_fault(steps, program, lot, stand, way):
    """What is wrong with a way to the stand, or None."""
    _check_asked(steps, program, lot, stand)
    if not is_whole(way.start, 0, steps.stands - 1) or not lot >> way.start & 1:
        return "start"
    if not _are_names(steps, way.names):
        return "name"
    if not _are_taken(steps, way):
        return "step"
    end = way.stands[-1] if way.stands else way.start
    if end != stand:
        return "end"
    return None if _is_run(program, way.names) else "program"
