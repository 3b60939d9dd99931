"""Glasses as texts: "0 1 4 7 of 3"."""

from truealarms.errors import BadGlasses, BadText
from truealarms.glasses import Glasses

DIGITS = "0123456789"


def glasses_text(glasses):
    """The members in decimal, "of" and the number of stands."""
    return " ".join([str(member) for member in glasses.members] + ["of", str(glasses.stands)])


def _is_number(word):
    """Whether a word has one or two digits and no zero in front of another digit."""
    if not 1 <= len(word) <= 2 or not all([sign in DIGITS for sign in word]):
        return False
    return len(word) == 1 or word[0] != "0"


def _number_at(words, at):
    """The number that is due at an index."""
    if at == len(words):
        raise BadText(at, "end")
    if not _is_number(words[at]):
        raise BadText(at, "word")
    return int(words[at])


def read_glasses(text):
    """The glasses of a text."""
    if not isinstance(text, str):
        raise BadText(0, "kind")
    words = text.split(" ")
    members = [_number_at(words, 0)]
    at = 1
    # Where the words end, a number or "of" is still due; it is asked for, and so refused.
    while at == len(words) or words[at] != "of":
        members.append(_number_at(words, at))
        at += 1
    stands = _number_at(words, at + 1)
    if at + 2 < len(words):
        raise BadText(at + 2, "word")
    try:
        return Glasses(stands, members)
    except BadGlasses:
        raise BadText(0, "glasses") from None
