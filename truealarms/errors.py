"""The errors of the package; none of them stands under another one but CheckerError."""


class CheckerError(ValueError):
    """All errors of the package stand directly under this one."""


class BadStands(CheckerError):
    """A number of stands is no whole number from 1 to 6."""


class BadLot(CheckerError):
    """A thing is no lot of these stands."""


class BadGlasses(CheckerError):
    """Glasses are refused."""

    def __init__(self, what, place):
        self.what = what
        self.place = place


class NoMember(CheckerError):
    """A lot is no member of the glasses."""


class UnlikeStands(CheckerError):
    """Two things have unlike numbers of stands."""


class TooMany(CheckerError):
    """The work is beyond its bound."""

    def __init__(self, most):
        self.most = most


class BadText(CheckerError):
    """A text cannot be read."""

    def __init__(self, at, what):
        self.at = at
        self.what = what


class BadRow(CheckerError):
    """A row, or a sequence of rows, is refused."""

    def __init__(self, place):
        self.place = place


class BadSteps(CheckerError):
    """Entries of steps are refused."""

    def __init__(self, what, place):
        self.what = what
        self.place = place


class NoStep(CheckerError):
    """No step has this name."""

    def __init__(self, name):
        self.name = name


class BadProgram(CheckerError):
    """A program is refused."""

    def __init__(self, what):
        self.what = what


class BadStand(CheckerError):
    """A thing is no stand."""

    def __init__(self, stand):
        self.stand = stand


class NoWay(CheckerError):
    """A stand is not in the true end."""

    def __init__(self, stand):
        self.stand = stand


class NotAgain(CheckerError):
    """A program is no again at the top."""


class BadKind(CheckerError):
    """A thing is no kind of steps."""


class BadLines(CheckerError):
    """Lines have a fault."""

    def __init__(self, number, word):
        self.number = number
        self.word = word


class NotLet(CheckerError):
    """A new line is not let."""

    def __init__(self, what):
        self.what = what


class BadRewriting(CheckerError):
    """A rewriting, or what is put for its letters, is refused."""

    def __init__(self, what):
        self.what = what


class NoMove(CheckerError):
    """A move cannot be made in a program."""

    def __init__(self, what):
        self.what = what


class BadMove(CheckerError):
    """One of several moves is refused."""

    def __init__(self, index, what):
        self.index = index
        self.what = what


class BadManner(CheckerError):
    """A thing is no manner of fusing steps."""


class NotTest(CheckerError):
    """A step is no test."""

    def __init__(self, name):
        self.name = name


class NotAll(CheckerError):
    """Two tests leave a stand out."""


class NoCounter(CheckerError):
    """A rewriting has no counter."""


class BadMost(CheckerError):
    """A thing is no number of moves."""


class BadCells(CheckerError):
    """Cells are no parting of the stands."""

    def __init__(self, what, place):
        self.what = what
        self.place = place


class NotEven(CheckerError):
    """Glasses are not even."""

    def __init__(self, member):
        self.member = member


class BadPair(CheckerError):
    """A pair of names is refused."""

    def __init__(self, what):
        self.what = what


class BadSide(CheckerError):
    """A thing is no side of a pair."""


class BadFact(CheckerError):
    """A fact, or a sequence of facts, is refused."""

    def __init__(self, place):
        self.place = place


class NoneFits(CheckerError):
    """No glasses fit the facts."""

    def __init__(self, place, other):
        self.place = place
        self.other = other


class BadEdit(CheckerError):
    """An edit, or a sequence of edits, is refused."""

    def __init__(self, place, what):
        self.place = place
        self.what = what


class Spoilt(CheckerError):
    """An edit drops a lot that is no needed member."""

    def __init__(self, place):
        self.place = place


class BadDemand(CheckerError):
    """A demand, or a sequence of demands, is refused."""

    def __init__(self, place):
        self.place = place


class NoDeed(CheckerError):
    """No edit can be taken back."""
