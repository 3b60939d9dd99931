"""[1.6]: programs as texts."""

import unittest

from helpers import error_of, nested, programs_of
from truealarms.errors import BadText
from truealarms.programtext import program_text, read_program

F = ("step", "f")
G = ("step", "g")
H = ("step", "h")
NOTHING = ("nothing",)


def refused(text):
    """The index and the word with which a text is refused."""
    kind, told = error_of(read_program, text)
    assert kind is BadText, text
    return told


def behind(one, other):
    return ("behind", one, other)


def either(one, other):
    return ("either", one, other)


def again(inner):
    return ("again", inner)


def without_couples(text):
    """The text without one couple of parentheses, for each such couple."""
    opened = []
    for at, sign in enumerate(text):
        if sign == "(":
            opened.append(at)
        if sign == ")":
            start = opened.pop()
            yield text[:start] + text[start + 1:at] + text[at + 1:]


class Written(unittest.TestCase):
    def test_shapes(self):
        told = [
            (F, "f"), (NOTHING, "nothing"), (again(F), "f*"), (again(again(NOTHING)), "nothing**"),
            (behind(F, G), "f; g"), (either(F, G), "f | g"),
            (behind(behind(F, G), H), "f; g; h"), (behind(F, behind(G, F)), "f; (g; f)"),
            (either(either(F, G), H), "f | g | h"), (either(F, either(G, H)), "f | (g | h)"),
            (again(behind(F, G)), "(f; g)*"), (again(either(F, G)), "(f | g)*"), (again(again(behind(F, G))), "(f; g)**"),
            (behind(either(F, G), H), "(f | g); h"), (behind(F, either(G, H)), "f; (g | h)"),
            (either(behind(F, G), H), "f; g | h"), (either(F, behind(G, H)), "f | g; h"),
            (behind(again(F), again(G)), "f*; g*"), (either(again(F), again(G)), "f* | g*"),
            (behind(F, again(either(G, NOTHING))), "f; (g | nothing)*")]
        for program, text in told:
            self.assertEqual(program_text(program), text)
            self.assertEqual(read_program(text), program)

    def test_what_is_written_is_read_back(self):
        for size in range(1, 6):
            for program in programs_of(size):
                self.assertEqual(read_program(program_text(program)), program)

    def test_each_couple_of_parentheses_is_needed(self):
        for size in range(1, 7):
            for program in programs_of(size, ("f",)):
                for text in without_couples(program_text(program)):
                    if error_of(read_program, text) is None:
                        self.assertNotEqual(read_program(text), program)

    def test_programs_that_no_steps_have(self):
        deep = nested(lambda inner: behind(again(either(inner, G)), F), 20)
        self.assertEqual(program_text(deep), "(" * 20 + "f" + " | g)*; f" * 20)


class Read(unittest.TestCase):
    def test_example(self):
        self.assertEqual(read_program("f; (g | nothing)*"), behind(F, again(either(G, NOTHING))))

    def test_binding(self):
        self.assertEqual(read_program("f | g; h*"), either(F, behind(G, again(H))))
        self.assertEqual(read_program("f*; g | h"), either(behind(again(F), G), H))
        self.assertEqual(read_program("f; g; h"), behind(behind(F, G), H))
        self.assertEqual(read_program("f | g | h"), either(either(F, G), H))
        self.assertEqual(read_program("f; g | h; f"), either(behind(F, G), behind(H, F)))

    def test_blanks(self):
        for text in ("f;g|h*", " f ; g | h * ", "f   ;   g|h   *", "   f;g |h*"):
            self.assertEqual(read_program(text), either(behind(F, G), again(H)), text)
        self.assertEqual(read_program("( ( f ) * ) *"), again(again(F)))

    def test_further_parentheses(self):
        for text in ("(f); (g)", "((f; g))", "((f)); g", "(((f); (g)))"):
            self.assertEqual(read_program(text), behind(F, G), text)
        self.assertEqual(read_program("(f)*"), again(F))
        self.assertEqual(read_program("(f; g) | h"), either(behind(F, G), H))

    def test_names(self):
        self.assertEqual(read_program("abcdefgh"), ("step", "abcdefgh"))
        for letter in "abcdefghijklmnopqrstuvwxyz":
            self.assertEqual(read_program(letter), ("step", letter))
        self.assertEqual(read_program("nothings; nothin; nothing"),
                         behind(behind(("step", "nothings"), ("step", "nothin")), NOTHING))
        self.assertEqual(read_program("step | behind"), either(("step", "step"), ("step", "behind")))

    def test_bounds_that_are_not_asked(self):
        self.assertEqual(read_program("f***** ; g"), behind(nested(again, 5), G))
        self.assertEqual(read_program("f" + "*" * 20), nested(again, 20))
        self.assertEqual(read_program("f" + "; f" * 70), nested(lambda inner: behind(inner, F), 70))

    def test_what_is_read_is_written_back(self):
        for text in ("f" + "; f" * 199, "f" + "*" * 599, "f" + " | g" * 149):
            self.assertEqual(program_text(read_program(text)), text)


class Refused(unittest.TestCase):
    def test_kind(self):
        for thing in (None, 0, True, b"f", ["f"], ("step", "f")):
            self.assertEqual(refused(thing), (0, "kind"), thing)

    def test_long(self):
        self.assertEqual(read_program("f" + " " * 599), F)
        self.assertEqual(refused("f" + " " * 600), (0, "long"))
        self.assertEqual(refused("F" * 601), (0, "long"))

    def test_sign(self):
        for sign in "AZ019_-.,:&!+?[]{}'\"/\\~^\t\n":
            self.assertEqual(refused(f"f; {sign}"), (3, "sign"), sign)
            self.assertEqual(refused(f"{sign}{sign}"), (0, "sign"), sign)
        # Signs are looked at ahead of words.
        self.assertEqual(refused(")) abcdefghijk \t"), (15, "sign"))
        self.assertEqual(refused("f g\nh\t"), (3, "sign"))

    def test_words_where_a_program_is_due(self):
        for mark in "*;|)":
            self.assertEqual(refused(mark), (0, "word"), mark)
            self.assertEqual(refused(f"  {mark}"), (2, "word"), mark)
            self.assertEqual(refused(f"f; {mark} f"), (3, "word"), mark)
            self.assertEqual(refused(f"f | {mark} f"), (4, "word"), mark)
            self.assertEqual(refused(f"({mark} f"), (1, "word"), mark)
        self.assertEqual(refused("()"), (1, "word"))
        self.assertEqual(refused("(f; )"), (4, "word"))

    def test_words_where_no_program_is_due(self):
        for word in ("g", "(", "(g)", "nothing", "abcdefghi"):
            self.assertEqual(refused(f"f {word}"), (2, "word"), word)
            self.assertEqual(refused(f"f* {word}"), (3, "word"), word)
            self.assertEqual(refused(f"(f) {word}"), (4, "word"), word)
            self.assertEqual(refused(f"(f {word}"), (3, "word"), word)

    def test_parentheses_that_are_not_open(self):
        self.assertEqual(refused("f)"), (1, "word"))
        self.assertEqual(refused("(f))"), (3, "word"))
        self.assertEqual(refused("f; g) ; ("), (4, "word"))

    def test_long_names(self):
        self.assertEqual(refused("abcdefghi"), (0, "word"))
        self.assertEqual(refused("f; abcdefghijkl; )"), (3, "word"))
        self.assertEqual(refused("(f | nothingxy"), (5, "word"))

    def test_deep(self):
        for left in range(1, 13):
            self.assertEqual(read_program("(" * left + "f" + ")" * left), F)
        self.assertEqual(refused("(" * 13 + "f" + ")" * 13), (12, "deep"))
        self.assertEqual(refused("f; " + "( " * 13), (27, "deep"))
        self.assertEqual(refused("(" * 12 + "f ("), (14, "word"))
        self.assertEqual(read_program("(" * 11 + "f; (g)" + ")" * 11), behind(F, G))
        self.assertEqual(refused("(" * 12 + "f; (g)" + ")" * 12), (15, "deep"))
        # Parentheses beside one another are not within one another.
        self.assertEqual(read_program("(f); " * 14 + "f"), nested(lambda inner: behind(inner, F), 14))

    def test_end(self):
        for text in ("", " ", "   ", "f;", "f; ", "f |", "f | g;  ", "(", "(f", "(f  ", "((f)", "(f*", "(f; (g)"):
            self.assertEqual(refused(text), (len(text), "end"), text)

    def test_the_first_thing_that_does_not_fit(self):
        self.assertEqual(refused("f g )"), (2, "word"))
        self.assertEqual(refused("(f g"), (3, "word"))
        self.assertEqual(refused("abcdefghi " + "(" * 13), (0, "word"))
        self.assertEqual(refused("(" * 13 + "abcdefghi"), (12, "deep"))


if __name__ == "__main__":
    unittest.main()
