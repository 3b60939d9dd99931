"""What several tests need: ways to catch errors, and things to try."""

from itertools import product
from random import Random

from truealarms.errors import BadLot, BadProgram, BadRow, UnlikeStands
from truealarms.families import all_glasses, made_glasses
from truealarms.steps import Steps

# None of these is a whole number, a lot, a stand or a number of stands.
NO_WHOLES = (True, False, None, "1", "", -1, 10 ** 30, 1.0, [1], (1,), {}, b"1")

# None of these is a sequence.
NO_SEQUENCES = (None, 0, 7, True, "", "ab", b"ab", {}, {1: 2}, {1}, range(3), iter(()))


def error_of(call, *given):
    """The class and the attributes of the error that a call raises, or None."""
    try:
        call(*given)
    except Exception as error:
        return type(error), tuple(vars(error).values())
    return None


def all_rows(stands):
    """All rows of so many stands."""
    return list(product(range(1 << stands), repeat=stands))


def some_rows(stands):
    """A few rows of so many stands, of many kinds."""
    every = (1 << stands) - 1
    return [
        tuple([(7 * (s + 1) * (s + k) + 3 * k) & every for s in range(stands)])
        for k in range(1, 8)
    ] + [
        (0,) * stands,
        (every,) * stands,
        tuple([1 << s for s in range(stands)]),
        tuple([1 << (s + 1) % stands for s in range(stands)]),
        tuple([1 << min(s + 1, stands - 1) for s in range(stands)]),
    ]


def programs_of(size, names=("f", "g")):
    """All programs of so many nodes over some names."""
    if size == 1:
        return [("step", name) for name in names] + [("nothing",)]
    found = [("again", inner) for inner in programs_of(size - 1, names)]
    for left in range(1, size - 1):
        for one, other in product(programs_of(left, names), programs_of(size - 1 - left, names)):
            found += [("behind", one, other), ("either", one, other)]
    return found


def nested(wrap, times, program=("step", "f")):
    """A program put into a wrap so many times."""
    for _ in range(times):
        program = wrap(program)
    return program


def runs_of(program, longest):
    """All runs of a program of at most so many names."""
    if program[0] == "step":
        return {(program[1],)} if longest else set()
    if program[0] == "nothing":
        return {()}
    left = runs_of(program[1], longest)
    if program[0] == "either":
        return left | runs_of(program[2], longest)
    if program[0] == "behind":
        return behind_runs(left, runs_of(program[2], longest), longest)
    runs = {()}
    while True:
        grown = runs | behind_runs(runs, left, longest)
        if grown == runs:
            return runs
        runs = grown


def behind_runs(one, other, longest):
    return {left + right for left in one for right in other if len(left + right) <= longest}


def end_by_rounds(rows, program, lot):
    """The true end, as the document tells it; rows is a dict by name."""
    if program[0] == "step":
        reached = [rows[program[1]][s] for s in range(6) if lot >> s & 1]
        return sum([1 << t for t in range(6) if any(following >> t & 1 for following in reached)])
    if program[0] == "nothing":
        return lot
    if program[0] == "behind":
        return end_by_rounds(rows, program[2], end_by_rounds(rows, program[1], lot))
    if program[0] == "either":
        return end_by_rounds(rows, program[1], lot) | end_by_rounds(rows, program[2], lot)
    rounds = [lot]
    while True:
        rounds.append(rounds[-1] | end_by_rounds(rows, program[1], rounds[-1]))
        if rounds[-1] == rounds[-2]:
            return rounds[-1]


def every_glasses(stands):
    """All glasses of one to three stands; of more stands a few, of many forms."""
    if stands <= 3:
        return list(all_glasses(stands))
    every = (1 << stands) - 1
    lots = [(37 * k + 11) & every for k in range(1, 9)]
    few = [lot for lot in range(every) if bin(lot).count("1") <= 1]
    chain = [(1 << k) - 1 for k in range(stands)]
    given = [[], [0], lots[:3], lots[2:6], lots, few, chain, [1, 3], range(every), [every >> 1, every - 1]]
    return [made_glasses(stands, list(some)) for some in given]


def some_steps(stands):
    """A few steps with the names f and g."""
    rows = some_rows(stands)
    return [Steps(stands, [("f", rows[k]), ("g", rows[(5 * k + 3) % len(rows)])]) for k in range(len(rows))]


def drawn_row(draw, stands):
    """A row of one of several kinds, drawn from a random source."""
    every = (1 << stands) - 1
    kind = draw.randrange(4)
    if kind == 0:
        return tuple([draw.randint(0, every) for _ in range(stands)])
    if kind == 1:
        return tuple([1 << draw.randrange(stands) for _ in range(stands)])
    if kind == 2:
        return tuple([draw.choice((0, 1 << s, 1 << draw.randrange(stands), every)) for s in range(stands)])
    return tuple([1 << draw.randrange(stands) | 1 << draw.randrange(stands) for _ in range(stands)])


def drawn_steps(draw, stands, names=("f", "g")):
    return Steps(stands, [(name, drawn_row(draw, stands)) for name in names])


def drawn_glasses(draw, stands):
    return made_glasses(stands, [draw.randrange(1 << stands) for _ in range(draw.randrange(2 + 2 * stands))])


def drawn_program(draw, size, names=("f", "g"), agains=2):
    """A program of at most so many nodes, with at most so many agains one within another."""
    if size <= 1 or draw.randrange(6) == 0:
        return draw.choice([("step", name) for name in names] * 3 + [("nothing",)])
    shape = draw.choice(("again", "behind", "behind", "either"))
    if shape == "again" or size == 2:
        if not agains:
            return drawn_program(draw, size - 1, names, agains)
        return ("again", drawn_program(draw, size - 1, names, agains - 1))
    left = draw.randrange(1, size - 1)
    return (shape, *[drawn_program(draw, part, names, agains) for part in (left, size - 1 - left)])


def fits(glasses, facts):
    """Whether glasses round each lot as the facts say."""
    return all(glasses.rounded(lot) == told for lot, told in facts)


def drawn_facts(draw, stands):
    """Facts of some glasses, with a few that may be changed."""
    glasses = draw.choice(every_glasses(stands)) if stands <= 3 else drawn_glasses(draw, stands)
    facts = []
    for _ in range(draw.randrange(6)):
        lot = draw.randrange(1 << stands)
        facts.append((lot, glasses.rounded(lot)))
    if facts and draw.randrange(3) == 0:
        facts[draw.randrange(len(facts))] = (draw.randrange(1 << stands), draw.randrange(1 << stands))
    return facts


def some_facts(stands, many):
    """So many sequences of drawn facts, and a few others."""
    draw = Random(100 + stands)
    return [[], [(0, 0)], [((1 << stands) - 1,) * 2]] + [drawn_facts(draw, stands) for _ in range(many)]


def lots_within(lot):
    return [other for other in range(lot + 1) if other & ~lot == 0]


def seen_by_document(glasses, rows, program, member):
    """The seen end from a member, as the document tells it; rows is a dict by name."""
    if program[0] == "step":
        return glasses.rounded(end_by_rounds(rows, program, member))
    if program[0] == "nothing":
        return member
    if program[0] == "again":
        closed = [other for other in glasses.members if member & ~other == 0
                  and seen_by_document(glasses, rows, program[1], other) & ~other == 0]
        assert all(closed[0] & ~other == 0 for other in closed)
        return closed[0]
    left = seen_by_document(glasses, rows, program[1], member)
    if program[0] == "behind":
        return seen_by_document(glasses, rows, program[2], left)
    return glasses.rounded(left | seen_by_document(glasses, rows, program[2], member))


def check_start_errors(case, call, *rest):
    """Check the order of errors of a function of glasses, steps, a program and a lot; rest stays as it is."""
    check_program_errors(case, call, None, *rest)
    three, steps = made_glasses(3, [1]), Steps(3, [("f", (2, 4, 4))])
    for lot in NO_WHOLES + (8,):
        case.assertEqual(error_of(call, three, steps, ("step", "f"), lot, *rest), (BadLot, ()), lot)


def check_program_errors(case, call, *rest):
    """Check the order of errors of a function of glasses, steps and a program; rest stays as it is."""
    two, three = made_glasses(2, []), made_glasses(3, [1])
    steps = Steps(3, [("f", (2, 4, 4))])
    for program in (None, ["step", "f"], ("step", "g"), ("step", "f")):
        case.assertEqual(error_of(call, two, steps, program, *rest), (UnlikeStands, ()))
        case.assertEqual(error_of(call, three, Steps(2, []), program, *rest), (UnlikeStands, ()))
    for program, what in (
            (None, "kind"), (["step", "f"], "kind"), (("step", "g"), "name"), (("again", ["nothing"]), "kind"),
            (nested(lambda inner: ("again", inner), 5), "again"),
            (nested(lambda inner: ("behind", inner, ("nothing",)), 12), "deep")):
        case.assertEqual(error_of(call, three, steps, program, *rest), (BadProgram, (what,)))


def check_row_errors(case, call, *rest):
    """Check what a function of glasses and a row raises for rows; rest stays as it is."""
    glasses = made_glasses(3, [1])
    for row in NO_SEQUENCES + ([], [1, 1], (1, 1), (1, 1, 1, 1)):
        case.assertEqual(error_of(call, glasses, row, *rest), (BadRow, (None,)), row)
    for lot in NO_WHOLES + (8,):
        for kind in (list, tuple):
            case.assertEqual(error_of(call, glasses, kind([0, lot, lot]), *rest), (BadRow, (1,)), lot)


def check_result(case, kind, names):
    """Check that a result keeps the very things that it is given, under these names."""
    things = [[name] for name in names]
    result = kind(*things)
    case.assertEqual(list(vars(result)), names)
    for name, thing in zip(names, things):
        case.assertIs(getattr(result, name), thing)
    case.assertEqual(vars(kind(**dict(zip(names, things)))), dict(zip(names, things)))
    case.assertNotIsInstance(result, tuple)
    case.assertFalse(result == kind(*things))
