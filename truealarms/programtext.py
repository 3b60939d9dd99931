"""Programs as texts: "f; (g | nothing)*"."""

from truealarms.errors import BadText
from truealarms.steps import LETTERS, LONGEST_NAME, NO_NAME

MARKS = ";|*()"
LONGEST_TEXT = 600
MOST_OPEN = 12


def _wrapped(program, shapes):
    """The program as one part, in parentheses if it has one of the shapes."""
    return ["(", program, ")"] if program[0] in shapes else [program]


def _parts_of(program):
    """The texts and inner programs of which the text of a program is made."""
    shape = program[0]
    if shape == "step":
        return [program[1]]
    if shape == "nothing":
        return [NO_NAME]
    if shape == "again":
        return _wrapped(program[1], ("behind", "either")) + ["*"]
    if shape == "behind":
        return _wrapped(program[1], ("either",)) + ["; "] + _wrapped(program[2], ("behind", "either"))
    return [program[1], " | "] + _wrapped(program[2], ("either",))


def program_text(program):
    """The text of a program, with no more parentheses than needed."""
    texts = []
    waiting = [program]
    while waiting:
        part = waiting.pop()
        if isinstance(part, str):
            texts.append(part)
        else:
            waiting.extend(_parts_of(part)[::-1])
    return "".join(texts)


def _check_signs(text):
    if not isinstance(text, str):
        raise BadText(0, "kind")
    if len(text) > LONGEST_TEXT:
        raise BadText(0, "long")
    for at, sign in enumerate(text):
        if sign != " " and sign not in LETTERS and sign not in MARKS:
            raise BadText(at, "sign")


def _name_end(text, at):
    """The index behind the letters that go on from an index."""
    while at < len(text) and text[at] in LETTERS:
        at += 1
    return at


def _words_of(text):
    """The words with their indexes; the last one is empty and stands behind the text."""
    words = []
    at = 0
    while at < len(text):
        end = max(at + 1, _name_end(text, at))
        if text[at] != " ":
            words.append((at, text[at:end]))
        at = end
    return words + [(at, "")]


# The following read from a place in the words, within so many open parentheses. They return the
# program and the place of the word behind it.

def _check_word(words, place, due):
    """Refuse a word that is not the one due; the empty one is due where the text must end."""
    at, word = words[place]
    if word != due:
        raise BadText(at, "word" if word else "end")


def _read_open(words, place, opened):
    """Read what stands behind a parenthesis, and the one that shuts it."""
    program, place = _read_either(words, place, opened)
    _check_word(words, place, ")")
    return program, place + 1


def _read_single(words, place, opened):
    """Read a name or a program in parentheses."""
    at, word = words[place]
    if word == "":
        raise BadText(at, "end")
    if word == "(":
        if opened == MOST_OPEN:
            raise BadText(at, "deep")
        return _read_open(words, place + 1, opened + 1)
    if word in MARKS or len(word) > LONGEST_NAME:
        raise BadText(at, "word")
    program = ("nothing",) if word == NO_NAME else ("step", word)
    return program, place + 1


def _read_again(words, place, opened):
    program, place = _read_single(words, place, opened)
    while words[place][1] == "*":
        program = ("again", program)
        place += 1
    return program, place


def _read_behind(words, place, opened):
    program, place = _read_again(words, place, opened)
    while words[place][1] == ";":
        right, place = _read_again(words, place + 1, opened)
        program = ("behind", program, right)
    return program, place


def _read_either(words, place, opened):
    program, place = _read_behind(words, place, opened)
    while words[place][1] == "|":
        right, place = _read_behind(words, place + 1, opened)
        program = ("either", program, right)
    return program, place


def read_program(text):
    """The program of a text."""
    _check_signs(text)
    words = _words_of(text)
    program, place = _read_either(words, 0, 0)
    _check_word(words, place, "")
    return program
