"""[2.3]: named steps."""

import unittest
from unittest.mock import ANY

from helpers import NO_SEQUENCES, NO_WHOLES, error_of
from truealarms.errors import BadSteps, NoStep
from truealarms.glasses import Glasses
from truealarms.steps import Steps

NO_NAMES = ("", "abcdefghi", "nothing", "A", "aB", "a b", "a1", "a_", "a\n", "\t", "*", "f;", None, 1, True, b"f",
            ["f"], ("f",))
LETTERS = "abcdefghijklmnopqrst"


def refused(stands, entries):
    """The word and the place with which Steps refuses these."""
    kind, told = error_of(Steps, stands, entries)
    assert kind is BadSteps
    return told


def many(number):
    return [(LETTERS[k // 20] + LETTERS[k % 20], (0, 0)) for k in range(number)]


class Refusals(unittest.TestCase):
    def test_stands(self):
        for stands in NO_WHOLES + (0, 7):
            self.assertEqual(refused(stands, "none"), ("stands", 0), stands)
            self.assertEqual(refused(stands, []), ("stands", 0), stands)

    def test_entries(self):
        for entries in NO_SEQUENCES + (many(21), ["none"] * 21):
            self.assertEqual(refused(2, entries), ("entries", 0), entries)

    def test_names(self):
        for name in NO_NAMES:
            self.assertEqual(refused(2, [("f", (0, 0)), (name, "none")]), ("name", 1), name)

    def test_entries_that_are_no_couples(self):
        for entry in NO_SEQUENCES + ([], ["g"], ["g", (0, 0), 0], ("g", (0, 0), (0, 0))):
            self.assertEqual(refused(2, [("f", (0, 0)), entry]), ("name", 1), entry)

    def test_a_name_twice(self):
        self.assertEqual(refused(2, [("f", (0, 0)), ("g", (0, 0)), ("f", (0, 0))]), ("name", 2))
        self.assertEqual(refused(2, [("f", (0, 0)), ("f", "none")]), ("name", 1))

    def test_rows(self):
        for row in NO_SEQUENCES + ([], [0], [0, 0, 0], (True,)):
            self.assertEqual(refused(2, [("f", (0, 0)), ("g", row)]), ("row", 1), row)

    def test_lots(self):
        for lot in NO_WHOLES + (4,):
            self.assertEqual(refused(2, [("f", (0, 0)), ("g", (0, lot))]), ("lot", 1), lot)
            self.assertEqual(refused(2, [("f", (lot, 0)), ("g", "none")]), ("lot", 0), lot)

    def test_all_words_of_an_entry_come_ahead_of_the_next_entry(self):
        self.assertEqual(refused(2, [("f", (0, 4)), ("", "none")]), ("lot", 0))
        self.assertEqual(refused(2, [("f", "none"), ("", "none")]), ("row", 0))
        self.assertEqual(refused(2, [("f", (0, 0)), ("", (0, 0)), "none"]), ("name", 1))


class Attributes(unittest.TestCase):
    def test_attributes(self):
        steps = Steps(2, [["g", [1, 2]], ("f", (3, 0))])
        self.assertEqual((steps.stands, steps.names, steps.rows), (2, ("g", "f"), ((1, 2), (3, 0))))
        self.assertEqual([type(row) for row in steps.rows], [tuple, tuple])

    def test_no_entries_and_twenty(self):
        for entries in ([], ()):
            steps = Steps(6, entries)
            self.assertEqual((steps.stands, steps.names, steps.rows), (6, (), ()))
        self.assertEqual(len(Steps(2, many(20)).names), 20)

    def test_names_of_one_and_of_eight_letters(self):
        self.assertEqual(Steps(1, [("a", (1,)), ("z", (1,)), ("abcdwxyz", (0,))]).names, ("a", "z", "abcdwxyz"))
        self.assertEqual(Steps(1, [("nothings", [0]), ("nothin", [1])]).names, ("nothings", "nothin"))

    def test_changes_of_the_lists_have_no_effect(self):
        row = [1, 2]
        entry = ["f", row]
        entries = [entry]
        steps = Steps(2, entries)
        row[0] = 3
        entry[0] = "g"
        entries.append(entry)
        self.assertEqual((steps.names, steps.rows), (("f",), ((1, 2),)))


class Names(unittest.TestCase):
    def test_in(self):
        steps = Steps(2, [("f", (1, 2)), ("ab", (3, 0))])
        self.assertIs("f" in steps, True)
        self.assertIs("ab" in steps, True)
        for name in NO_NAMES + ("g", "a", "b", "fab", ("f", (1, 2)), (1, 2), steps):
            self.assertIs(name in steps, False, name)

    def test_row_of(self):
        steps = Steps(2, [("f", (1, 2)), ("ab", [3, 0])])
        self.assertEqual((steps.row_of("f"), steps.row_of("ab")), ((1, 2), (3, 0)))
        for name in NO_NAMES + ("g", "a"):
            self.assertEqual(error_of(steps.row_of, name), (NoStep, (name,)))

    def test_with_row_at_a_name_that_is_there(self):
        steps = Steps(2, [("f", (1, 2)), ("g", (3, 0)), ("h", (0, 0))])
        row = [2, 2]
        changed = steps.with_row("g", row)
        row[0] = 0
        self.assertEqual((changed.stands, changed.names), (2, ("f", "g", "h")))
        self.assertEqual(changed.rows, ((1, 2), (2, 2), (0, 0)))
        self.assertEqual(steps.rows, ((1, 2), (3, 0), (0, 0)))
        self.assertEqual(Steps(2, many(20)).with_row("aa", (3, 3)).rows, ((3, 3),) + ((0, 0),) * 19)

    def test_with_row_at_a_new_name(self):
        steps = Steps(2, [("f", (1, 2))])
        changed = steps.with_row("e", (0, 3))
        self.assertEqual((changed.names, changed.rows), (("f", "e"), ((1, 2), (0, 3))))
        self.assertEqual(steps.names, ("f",))
        self.assertEqual(len(Steps(2, many(19)).with_row("f", (0, 0)).names), 20)

    def test_with_row_refused(self):
        full = Steps(2, many(20))
        self.assertEqual(error_of(full.with_row, "f", (0, 0)), (BadSteps, ("entries", 0)))
        self.assertEqual(error_of(full.with_row, None, "none"), (BadSteps, ("entries", 0)))
        self.assertEqual(error_of(full.with_row, "ab", (0,)), (BadSteps, ("row", 1)))
        steps = Steps(2, [("f", (1, 2)), ("g", (3, 0))])
        self.assertEqual(error_of(steps.with_row, "g", (0, 4)), (BadSteps, ("lot", 1)))
        self.assertEqual(error_of(steps.with_row, "h", None), (BadSteps, ("row", 2)))
        for name in NO_NAMES:
            self.assertEqual(error_of(steps.with_row, name, (0, 0)), (BadSteps, ("name", 2)), name)


class Equality(unittest.TestCase):
    def test_equal_exactly_with_equal_attributes(self):
        told = [
            (2, [("f", (1, 2)), ("g", (3, 0))]), (2, (["f", [1, 2]], ["g", [3, 0]])), (2, [("g", (3, 0)), ("f", (1, 2))]),
            (2, [("f", (1, 2))]), (2, [("f", (1, 1))]), (2, [("g", (1, 2))]), (2, []), (3, [])]
        family = [Steps(stands, entries) for stands, entries in told]
        for one in family:
            for other in family:
                alike = (one.stands, one.names, one.rows) == (other.stands, other.names, other.rows)
                self.assertIs(one == other, alike)
                self.assertIs(one != other, not alike)
        self.assertEqual(family[0], family[1])

    def test_unlike_anything_else(self):
        steps = Steps(2, [])
        for thing in (None, 0, 2, (2, (), ()), [], (), Glasses(2, [3]), object(), ANY):
            self.assertIs(steps == thing, False)
            self.assertIs(steps != thing, True)
        self.assertIs(Glasses(2, [3]) == steps, False)


if __name__ == "__main__":
    unittest.main()
