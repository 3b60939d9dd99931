"""[0.7] and the list of error classes in the interface."""

import unittest

from truealarms import errors

ATTRIBUTES = {
    "BadStands": (), "BadLot": (), "BadGlasses": ("what", "place"), "NoMember": (), "UnlikeStands": (),
    "TooMany": ("most",), "BadText": ("at", "what"), "BadRow": ("place",), "BadSteps": ("what", "place"),
    "NoStep": ("name",), "BadProgram": ("what",), "BadStand": ("stand",), "NoWay": ("stand",), "NotAgain": (),
    "BadKind": (), "BadLines": ("number", "word"), "NotLet": ("what",), "BadRewriting": ("what",),
    "NoMove": ("what",), "BadMove": ("index", "what"), "BadManner": (), "NotTest": ("name",), "NotAll": (),
    "NoCounter": (), "BadMost": (), "BadCells": ("what", "place"), "NotEven": ("member",), "BadPair": ("what",),
    "BadSide": (), "BadFact": ("place",), "NoneFits": ("place", "other"), "BadEdit": ("place", "what"),
    "Spoilt": ("place",), "BadDemand": ("place",), "NoDeed": (),
}


class Errors(unittest.TestCase):
    def test_the_errors_are_the_told_ones(self):
        told = sorted([name for name in vars(errors) if isinstance(vars(errors)[name], type)])
        self.assertEqual(told, sorted(list(ATTRIBUTES) + ["CheckerError"]))

    def test_each_stands_directly_under_its_class(self):
        self.assertEqual(errors.CheckerError.__bases__, (ValueError,))
        for name in ATTRIBUTES:
            self.assertEqual(getattr(errors, name).__bases__, (errors.CheckerError,), name)

    def test_attributes_by_place_and_by_name_with_any_values(self):
        values = [object(), None]
        for name, attributes in ATTRIBUTES.items():
            told = dict(zip(attributes, values))
            for error in (getattr(errors, name)(*told.values()), getattr(errors, name)(**told)):
                self.assertEqual(list(vars(error).items()), list(told.items()), name)

    def test_attributes_are_asked_for(self):
        for name, attributes in ATTRIBUTES.items():
            if attributes:
                with self.assertRaises(TypeError):
                    getattr(errors, name)()

    def test_they_can_be_caught_as_value_errors(self):
        with self.assertRaises(ValueError):
            raise errors.BadGlasses("meet", (0, 1))


if __name__ == "__main__":
    unittest.main()
