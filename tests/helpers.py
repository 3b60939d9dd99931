"""What several tests need: ways to catch errors, and things to try."""

from itertools import product

# None of these is a whole number, a lot, a stand or a number of stands.
NO_WHOLES = (True, False, None, "1", "", -1, 10 ** 30, 1.0, [1], (1,), {}, b"1")

# None of these is a sequence.
NO_SEQUENCES = (None, 0, 7, True, "", "ab", b"ab", {}, {1: 2}, {1}, range(3), iter(()))


def error_of(call, *given):
    """The class and the attributes of the error that a call raises, or None."""
    try:
        call(*given)
    except Exception as error:
        return type(error), tuple(vars(error).values())
    return None


def all_rows(stands):
    """All rows of so many stands."""
    return list(product(range(1 << stands), repeat=stands))


def some_rows(stands):
    """A few rows of so many stands, of many kinds."""
    every = (1 << stands) - 1
    return [
        tuple([(7 * (s + 1) * (s + k) + 3 * k) & every for s in range(stands)])
        for k in range(1, 8)
    ] + [
        (0,) * stands,
        (every,) * stands,
        tuple([1 << s for s in range(stands)]),
        tuple([1 << (s + 1) % stands for s in range(stands)]),
        tuple([1 << min(s + 1, stands - 1) for s in range(stands)]),
    ]


def programs_of(size, names=("f", "g")):
    """All programs of so many nodes over some names."""
    if size == 1:
        return [("step", name) for name in names] + [("nothing",)]
    found = [("again", inner) for inner in programs_of(size - 1, names)]
    for left in range(1, size - 1):
        for one, other in product(programs_of(left, names), programs_of(size - 1 - left, names)):
            found += [("behind", one, other), ("either", one, other)]
    return found


def nested(wrap, times, program=("step", "f")):
    """A program put into a wrap so many times."""
    for _ in range(times):
        program = wrap(program)
    return program


def runs_of(program, longest):
    """All runs of a program of at most so many names."""
    if program[0] == "step":
        return {(program[1],)} if longest else set()
    if program[0] == "nothing":
        return {()}
    left = runs_of(program[1], longest)
    if program[0] == "either":
        return left | runs_of(program[2], longest)
    if program[0] == "behind":
        return behind_runs(left, runs_of(program[2], longest), longest)
    runs = {()}
    while True:
        grown = runs | behind_runs(runs, left, longest)
        if grown == runs:
            return runs
        runs = grown


def behind_runs(one, other, longest):
    return {left + right for left in one for right in other if len(left + right) <= longest}


def end_by_rounds(rows, program, lot):
    """The true end, as the document tells it; rows is a dict by name."""
    if program[0] == "step":
        reached = [rows[program[1]][s] for s in range(6) if lot >> s & 1]
        return sum([1 << t for t in range(6) if any(following >> t & 1 for following in reached)])
    if program[0] == "nothing":
        return lot
    if program[0] == "behind":
        return end_by_rounds(rows, program[2], end_by_rounds(rows, program[1], lot))
    if program[0] == "either":
        return end_by_rounds(rows, program[1], lot) | end_by_rounds(rows, program[2], lot)
    rounds = [lot]
    while True:
        rounds.append(rounds[-1] | end_by_rounds(rows, program[1], rounds[-1]))
        if rounds[-1] == rounds[-2]:
            return rounds[-1]
