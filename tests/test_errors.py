"""errors.py: [0.6]."""

import unittest

from goonagain import errors

PARAMETERS = {
    "BadText": ("place", "what"), "BadName": ("what", "name"), "BadAsks": ("index",), "BadTurnName": ("name",),
    "NoTurn": ("path", "name"), "BadCode": ("fault",), "NoKeep": ("path",), "BadListing": ("line",),
    "BadJumps": ("fault",), "BadKind": ("kind",), "Unfit": ("word", "birth"), "BadStanding": ("place", "what"),
    "NoCall": ("outcome",), "BadPlan": ("place",), "BadMost": ("most",), "BadCount": ("many",),
    "BadHandover": ("index",), "Ahead": ("shown",), "BadKept": ("calls",), "BadDeed": ("index",),
}


class Errors(unittest.TestCase):
    def test_base(self):
        self.assertEqual(errors.RestsError.__bases__, (ValueError,))

    def test_each_stands_straight_below_the_base(self):
        for name in PARAMETERS:
            self.assertEqual(getattr(errors, name).__bases__, (errors.RestsError,), name)

    def test_no_other_error(self):
        found = {name for name, thing in vars(errors).items() if isinstance(thing, type)}
        self.assertEqual(found, set(PARAMETERS) | {"RestsError"})

    def test_attributes_have_the_names_of_the_parameters(self):
        handed = [0, -3, True, None, "a word", ("fault", 3), [1, [2]], {"a": 1}, object(), 1.5, b"x", ValueError("x")]
        for name, parameters in PARAMETERS.items():
            for at in range(len(handed)):
                values = tuple(handed[(at + k) % len(handed)] for k in range(len(parameters)))
                for error in (getattr(errors, name)(*values), getattr(errors, name)(**dict(zip(parameters, values)))):
                    for parameter, value in zip(parameters, values):
                        self.assertIs(getattr(error, parameter), value)
                    with self.assertRaises(ValueError):
                        raise error

    def test_wrong_number_of_arguments(self):
        for name, parameters in PARAMETERS.items():
            with self.assertRaises(TypeError):
                getattr(errors, name)(*range(len(parameters) + 1))
            with self.assertRaises(TypeError):
                getattr(errors, name)(*range(len(parameters) - 1))


if __name__ == "__main__":
    unittest.main()
