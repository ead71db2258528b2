"""values.py: [3.1]."""

import unittest

from goonagain.values import FALSE, NONE, TRUE, is_value

BIG = 10 ** 9


class Values(unittest.TestCase):
    def test_names(self):
        self.assertEqual((TRUE, FALSE, NONE), (("true",), ("false",), ("none",)))

    def test_values(self):
        for thing in (0, 1, -1, BIG, -BIG, TRUE, FALSE, NONE, ("pair", 1), ("fun", 1), ("rest", 1), ("rest", BIG * BIG)):
            self.assertIs(is_value(thing), True, thing)

    def test_what_is_none(self):
        for thing in (
            True, False, None, BIG + 1, -BIG - 1, 1.0, 0.0, "true", "", b"x", (), (1,), ("pair",), ("fun",), ("rest",),
            ("true", 1), ("none", 1), ("number", 1), ("number",), ("pair", 0), ("pair", -1), ("fun", 0), ("rest", 0),
            ("pair", True), ("fun", False), ("rest", "1"), ("rest", None), ("rest", 1.0), ("pair", 1, 2), ("fun", 1, ()),
            ["true"], ["pair", 1], ("mark",), ("keep", 1), ("once", 1), ("piece", 1), ("wait", 1), ("True",), ("fun?", 1),
            {"pair": 1}, {1}, object(), ("pair", ("pair", 1)), (("true",),), (1, "pair"), range(2), (None, 1), (["pair"], 1),
        ):
            self.assertIs(is_value(thing), False, thing)


if __name__ == "__main__":
    unittest.main()
