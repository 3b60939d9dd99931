"""True ends: where a program can come to, and the steps that it meets on its run."""

from truealarms.lots import check_lot
from truealarms.programs import check_program
from truealarms.rows import behind_row, joined_row, next_lot
from truealarms.runs import steps_met


class Met:
    """A step that the true run meets: where it stands, its name, and the lot at which it is taken."""

    def __init__(self, path, name, lot):
        self.path = path
        self.name = name
        self.lot = lot


def _closed_row(row):
    """The row that leads wherever the given one leads by being taken any number of times."""
    stands = len(row)
    closed = [lot | 1 << stand for stand, lot in enumerate(row)]
    # Behind each pass a stand leads wherever it comes to by way of the middles so far.
    for middle in range(stands):
        for stand in range(stands):
            if closed[stand] >> middle & 1:
                closed[stand] |= closed[middle]
    return tuple(closed)


def composed_row(rows, stands, program):
    """The row of a program, taken as one step; rows is a dict of the rows of its steps, by name."""
    shape = program[0]
    if shape == "step":
        return rows[program[1]]
    if shape == "nothing":
        return tuple([1 << stand for stand in range(stands)])
    left = composed_row(rows, stands, program[1])
    if shape == "again":
        return _closed_row(left)
    right = composed_row(rows, stands, program[2])
    return behind_row(left, right) if shape == "behind" else joined_row(left, right)


def _row_of_program(steps, program):
    return composed_row(dict(zip(steps.names, steps.rows)), steps.stands, program)


def true_end(steps, program, lot):
    """The lot of all stands that the program can come to from some stand of the lot."""
    check_program(steps, program)
    check_lot(steps.stands, lot)
    # The true end of a lot is the true ends of its stands together.
    return next_lot(_row_of_program(steps, program), lot)


def true_run(steps, program, lot):
    """The steps that the true run meets, in its order."""
    check_program(steps, program)
    check_lot(steps.stands, lot)
    # What a true run comes to is left as it is.
    rounding = tuple(range(1 << steps.stands))
    for path, name, place, _ in steps_met(steps, rounding, program, lot):
        yield Met(path, name, place)


def meaning_row(steps, program):
    """The row of the program taken as one step."""
    check_program(steps, program)
    return _row_of_program(steps, program)


def unlike_stand(steps, one, other):
    """The least stand from which two programs have unlike true ends, or None."""
    first = meaning_row(steps, one)
    second = meaning_row(steps, other)
    for stand in range(steps.stands):
        if first[stand] != second[stand]:
            return stand
    return None


def same_ends(steps, one, other):
    """Whether two programs have the same true end from every lot."""
    return unlike_stand(steps, one, other) is None
