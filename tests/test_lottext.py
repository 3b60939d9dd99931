"""[1.5]: glasses as texts."""

import unittest

from helpers import error_of
from truealarms.errors import BadText
from truealarms.families import all_glasses
from truealarms.glasses import Glasses
from truealarms.lottext import glasses_text, read_glasses


def refused(text):
    """The index and the word with which a text is refused."""
    kind, told = error_of(read_glasses, text)
    assert kind is BadText
    return told


class Texts(unittest.TestCase):
    def test_example(self):
        self.assertEqual(glasses_text(Glasses(3, [0, 1, 4, 7])), "0 1 4 7 of 3")
        self.assertEqual(read_glasses("0 1 4 7 of 3"), Glasses(3, [0, 1, 4, 7]))

    def test_what_is_written_is_read_back(self):
        family = [Glasses(6, list(range(64))), Glasses(6, [63]), Glasses(4, [0, 5, 10, 15])]
        for stands in (1, 2, 3):
            family += list(all_glasses(stands))
        for glasses in family:
            text = glasses_text(glasses)
            self.assertEqual(text, " ".join([str(m) for m in glasses.members]) + " of " + str(glasses.stands))
            self.assertEqual(read_glasses(text), glasses)

    def test_kind(self):
        for thing in (None, 0, True, b"3 of 2", ["3", "of", "2"], ("3 of 2",), Glasses(2, [3])):
            self.assertEqual(refused(thing), (0, "kind"), thing)

    def test_words_that_are_no_numbers(self):
        for word in ("", "00", "01", "007", "100", "-1", "+1", "1.", "a", "Of", "OF", "o", "off", "0x1", "1\n",
                     "\t1", "1\t3", "\n", ","):
            self.assertEqual(refused(f"{word} 3 of 2"), (0, "word"), word)
            self.assertEqual(refused(f"0 {word} of 2"), (1, "word"), word)
            self.assertEqual(refused(f"0 3 of {word}"), (3, "word"), word)
            self.assertEqual(refused(f"0 3 of {word} x"), (3, "word"), word)

    def test_of_where_a_number_is_due(self):
        self.assertEqual(refused("of 3"), (0, "word"))
        self.assertEqual(refused("of"), (0, "word"))
        self.assertEqual(refused("3 of of"), (2, "word"))

    def test_blanks(self):
        self.assertEqual(refused(""), (0, "word"))
        self.assertEqual(refused(" "), (0, "word"))
        self.assertEqual(refused(" 3 of 2"), (0, "word"))
        self.assertEqual(refused("0  3 of 2"), (1, "word"))
        self.assertEqual(refused("3 of  2"), (2, "word"))
        self.assertEqual(refused("3 of "), (2, "word"))
        self.assertEqual(refused("3 "), (1, "word"))
        self.assertEqual(refused("3 of 2 "), (3, "word"))

    def test_end(self):
        self.assertEqual(refused("0"), (1, "end"))
        self.assertEqual(refused("0 1 99"), (3, "end"))
        self.assertEqual(refused("3 of"), (2, "end"))
        self.assertEqual(refused("0 1 3 of"), (4, "end"))

    def test_words_behind_the_last_number(self):
        self.assertEqual(refused("3 of 2 2"), (3, "word"))
        self.assertEqual(refused("0 3 of 2 of 2"), (4, "word"))
        self.assertEqual(refused("1 0 of 99 x y"), (4, "word"))

    def test_the_first_word_that_does_not_fit(self):
        self.assertEqual(refused("0 x 00 of y z"), (1, "word"))
        self.assertEqual(refused("0 1 of y z"), (3, "word"))

    def test_refused_glasses(self):
        for text in ("3 of 0", "3 of 7", "3 of 99", "99 of 6", "0 of 1", "3 0 of 2", "3 3 of 2", "1 2 3 of 2", "4 of 2"):
            self.assertEqual(refused(text), (0, "glasses"), text)

    def test_numbers_of_one_and_two_digits(self):
        self.assertEqual(read_glasses("0 8 10 15 of 4").members, (0, 8, 10, 15))


if __name__ == "__main__":
    unittest.main()
