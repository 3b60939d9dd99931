"""Sharpening: of the programs that come of a program by a few moves, the one that is seen sharpest."""

from truealarms.errors import BadMost, TooMany
from truealarms.lots import size_of
from truealarms.programs import is_program
from truealarms.programtext import program_text
from truealarms.rewritings import check_names, moves_in, rewritten_at
from truealarms.seenends import check_start, seen_end
from truealarms.wholes import is_whole

MOST_MOVES = 3
MOST_TRIED = 200


class Sharpest:
    """The moves that lead to a program, the program, and its seen end."""

    def __init__(self, moves, program, seen):
        self.moves = moves
        self.program = program
        self.seen = seen


class Trials:
    """The programs tried so far, each behind the moves that lead to it, and the texts of all that came up."""

    def __init__(self, steps, program):
        self.steps = steps
        self.tried = [((), program)]
        self.texts = {program_text(program): True}

    def try_program(self, moves, program):
        """Put a program behind those tried so far, if it came up for the first time and is not refused."""
        text = program_text(program)
        if text in self.texts:
            return
        self.texts[text] = True
        if is_program(self.steps, program):
            self.tried.append((moves, program))
            if len(self.tried) > MOST_TRIED:
                raise TooMany(MOST_TRIED)

    def move_on(self, place, names):
        """Try all programs that come by one move of the one at a place."""
        moves, program = self.tried[place]
        for spot, name in moves_in(program, names=names):
            self.try_program(moves + ((spot, name),), rewritten_at(program, spot, name))


def _tried_programs(steps, program, names, most):
    """All programs tried, each behind its moves; those that take fewer moves come first."""
    trials = Trials(steps, program)
    first = 0
    for _ in range(most):
        last = len(trials.tried)
        for place in range(first, last):
            trials.move_on(place, names)
        first = last
    return trials.tried


def sharpest_found(glasses, steps, program, lot, names, most):
    """The program with the least seen end, and of those the one behind the fewest moves."""
    check_start(glasses, steps, program, lot)
    check_names(names)
    if not is_whole(most, 0, MOST_MOVES):
        raise BadMost()
    best = None
    for moves, tried in _tried_programs(steps, program, names, most):
        seen = seen_end(glasses, steps, tried, lot)
        if best is None or size_of(seen) < size_of(best.seen):
            best = Sharpest(moves, tried, seen)
    return best
