"""Rewritings: eighteen ways to put a program in the place of another one with the same true ends."""

from truealarms.errors import BadMove, BadRewriting, NoMove
from truealarms.programs import inner_programs
from truealarms.wholes import is_sequence, is_whole

LETTERS = ("r", "s", "t")
# How many letters each rewriting has, its left, its right and its verdict. In a left or a right, which are
# called shapes below, letters stand for programs.
REWRITINGS = {
    "bracket_behind": (3, ("behind", ("behind", "r", "s"), "t"), ("behind", "r", ("behind", "s", "t")), "alike"),
    "drop_first": (1, ("behind", ("nothing",), "r"), "r", "alike"),
    "drop_last": (1, ("behind", "r", ("nothing",)), "r", "alike"),
    "drop_double": (1, ("either", "r", "r"), "r", "alike"),
    "turn_either": (2, ("either", "r", "s"), ("either", "s", "r"), "alike"),
    "bracket_either": (3, ("either", ("either", "r", "s"), "t"), ("either", "r", ("either", "s", "t")), "alike"),
    "spread_first": (
        3, ("behind", "r", ("either", "s", "t")), ("either", ("behind", "r", "s"), ("behind", "r", "t")), "alike"),
    "again_once": (1, ("again", ("again", "r")), ("again", "r"), "alike"),
    "again_twice": (1, ("behind", ("again", "r"), ("again", "r")), ("again", "r"), "alike"),
    "again_mixed": (
        2, ("again", ("either", "r", "s")), ("again", ("behind", ("again", "r"), ("again", "s"))), "alike"),
    "again_ended": (1, ("again", "r"), ("either", ("nothing",), ("behind", ("again", "r"), "r")), "alike"),
    "again_turns": (
        2, ("again", ("either", "r", "s")),
        ("behind", ("again", ("behind", ("again", "r"), "s")), ("again", "r")), "alike"),
    "spread_last": (
        3, ("behind", ("either", "r", "s"), "t"), ("either", ("behind", "r", "t"), ("behind", "s", "t")), "sharper"),
    "unroll": (1, ("again", "r"), ("either", ("nothing",), ("behind", "r", ("again", "r"))), "sharper"),
    "slide_one": (1, ("behind", ("again", "r"), "r"), ("behind", "r", ("again", "r")), "sharper"),
    "slide_two": (
        2, ("behind", ("again", ("behind", "r", "s")), "r"),
        ("behind", "r", ("again", ("behind", "s", "r"))), "sharper"),
    "part_again": (
        2, ("again", ("either", "r", "s")),
        ("behind", ("again", "r"), ("again", ("behind", "s", ("again", "r")))), "sharper"),
    "halve_again": (
        1, ("again", "r"), ("behind", ("either", ("nothing",), "r"), ("again", ("behind", "r", "r"))), "sharper"),
}


def rewriting_names():
    """The names of the eighteen rewritings, in their order."""
    return tuple(REWRITINGS)


def _is_rewriting(thing):
    """Whether a thing of any kind is the name of a rewriting."""
    return isinstance(thing, str) and thing in REWRITINGS


def _rewriting_of(name):
    """How many letters the rewriting of a name has, its left, its right and its verdict."""
    if not _is_rewriting(name):
        raise BadRewriting("name")
    return REWRITINGS[name]


def verdict_of(name):
    """Whether left and right are seen alike, or the right may be seen sharper."""
    return _rewriting_of(name)[3]


def letters_of(name):
    """How many letters a rewriting has."""
    return _rewriting_of(name)[0]


def _filled(shape, put):
    """The program that comes of a shape; put holds the programs for the letters."""
    if isinstance(shape, str):
        return put[shape]
    return (shape[0],) + tuple([_filled(part, put) for part in shape[1:]])


def rewriting_pair(name, programs):
    """The left and the right, with programs put for the letters r, s and t in this order."""
    many, left, right = _rewriting_of(name)[:3]
    if not is_sequence(programs) or len(programs) != many:
        raise BadRewriting("many")
    put = dict(zip(LETTERS, programs))
    return (_filled(left, put), _filled(right, put))


def _places_of(program):
    """All spots with the programs there, a spot ahead of those below it."""
    places = []
    waiting = [((), program)]
    while waiting:
        spot, part = waiting.pop()
        places.append((spot, part))
        # The last one put in is taken first.
        for turn, inner in list(enumerate(inner_programs(part)))[::-1]:
            waiting.append((spot + (turn,), inner))
    return places


def spots_of(program):
    """All spots of a program, in order."""
    for spot, _ in _places_of(program):
        yield spot


def _parts_along(program, spot):
    """The programs that are met on the way to a spot, from the whole program to the one at the spot."""
    if not is_sequence(spot):
        raise NoMove("spot")
    parts = [program]
    for turn in spot:
        inner = inner_programs(parts[-1])
        if not is_whole(turn, 0, len(inner) - 1):
            raise NoMove("spot")
        parts.append(inner[turn])
    return parts


def part_at(program, spot):
    """The program at a spot."""
    return _parts_along(program, spot)[-1]


def _letters_put(shape, program):
    """The programs for the letters with which a shape is the program, as a dict, or None."""
    put = {}
    waiting = [(shape, program)]
    while waiting:
        wanted, part = waiting.pop()
        if isinstance(wanted, str):
            # A letter that stands twice needs equal programs.
            if put.setdefault(wanted, part) != part:
                return None
        elif wanted[0] != part[0]:
            return None
        else:
            waiting.extend(list(zip(wanted[1:], part[1:])))
    return put


def check_names(names):
    """Refuse what is no sequence of names of rewritings."""
    if not is_sequence(names) or not all([_is_rewriting(name) for name in names]):
        raise BadRewriting("name")


def moves_in(program, *, names=None):
    """All moves in a program whose names are among the given ones, as couples of a spot and a name."""
    if names is not None:
        check_names(names)
    chosen = [name for name in REWRITINGS if names is None or name in names]
    for spot, part in _places_of(program):
        for name in chosen:
            if _letters_put(REWRITINGS[name][1], part) is not None:
                yield (spot, name)


def rewritten_at(program, spot, name):
    """The program with the right of a rewriting in the place of its left at a spot."""
    parts = _parts_along(program, spot)
    if not _is_rewriting(name):
        raise NoMove("name")
    left, right = REWRITINGS[name][1:3]
    put = _letters_put(left, parts[-1])
    if put is None:
        raise NoMove("shape")
    whole = _filled(right, put)
    # A spot may be long, so the program is built again from there up, without recursion.
    for above, turn in list(zip(parts, spot))[::-1]:
        whole = above[:turn + 1] + (whole,) + above[turn + 2:]
    return whole


def _moved(program, move, index):
    """What comes of a program by one move; a move that is refused is told with its index."""
    if not is_sequence(move) or len(move) != 2:
        raise BadMove(index, "move")
    try:
        return rewritten_at(program, move[0], move[1])
    except NoMove as fault:
        raise BadMove(index, fault.what) from None


def rewritten_by(program, moves):
    """The program, and behind it what comes of it by each of the moves, one after the other."""
    if not is_sequence(moves):
        raise BadMove(0, "moves")
    programs = [program]
    for index, move in enumerate(moves):
        programs.append(_moved(programs[-1], move, index))
    return tuple(programs)
