"""standing.py: [3.9]."""

import unittest

from goonagain.standing import Standing, reached

PARTS = (("fun", 3), (1, ("pair", 2)), (4,), ((2, ("pair", 1, 1)), (3, ("fun", 1, ())), (4, ("mark",))), 7, 3, 2, 1)
NAMES = ("callee", "handed", "frames", "things", "born", "calls", "asked", "shown")


class Standings(unittest.TestCase):
    def test_it_keeps_what_it_is_given(self):
        standing = Standing(*PARTS)
        for name, part in zip(NAMES, PARTS):
            self.assertIs(getattr(standing, name), part)
        handed = [1, 2]
        self.assertIs(Standing("anything", handed, None, {}, -1, True, "", 1.5).handed, handed)
        self.assertEqual(vars(Standing(**dict(zip(NAMES, PARTS)))), vars(standing))

    def test_equal(self):
        self.assertTrue(Standing(*PARTS) == Standing(*PARTS))
        self.assertFalse(Standing(*PARTS) != Standing(*PARTS))

    def test_unlike_if_any_one_differs(self):
        for at in range(8):
            other = list(PARTS)
            other[at] = ("rest", 99)
            self.assertFalse(Standing(*PARTS) == Standing(*other), NAMES[at])
            self.assertTrue(Standing(*PARTS) != Standing(*other), NAMES[at])

    def test_unlike_anything_else(self):
        self.assertFalse(Standing(*PARTS) == PARTS)
        self.assertFalse(Standing(*PARTS) == None)  # noqa: E711


class Reached(unittest.TestCase):
    THINGS = {
        1: ("pair", 5, ("none",)), 2: ("pair", ("fun", 3), ("rest", 5)), 3: ("fun", 1, (7, ("pair", 1))),
        4: ("wait", 0, (("rest", 8), 1)), 5: ("keep", (4, 6)), 6: ("mark",), 7: ("pair", ("pair", 7), 0),
        8: ("once", (9,), 0), 9: ("pass", 8), 10: ("piece", (11, 4)), 11: ("wind", ("fun", 3), ("pair", 7)),
        12: ("way", ("to", (4, 9), 1), ("give", ("pair", 1))), 13: ("way", ("on", (11,)), ("call", ("fun", 3), (("pair", 7), 1))),
        14: ("way", ("off",), ("call", ("pair", 1), ())), 15: ("way", ("out",), ("give", 3)), 16: ("once", (), 1),
        17: ("way", ("on", (11, 6)), ("give", ("true",))),
    }

    def births(self, callee, handed=(), frames=()):
        found = reached(callee, handed, frames, self.THINGS)
        self.assertIsInstance(found, tuple)
        for birth, thing in found:
            self.assertEqual(thing, self.THINGS[birth])
        return tuple(birth for birth, _ in found)

    def test_nothing(self):
        self.assertEqual(self.births(5), ())
        self.assertEqual(self.births(("none",), (1, ("true",), -4)), ())

    def test_each_thing(self):
        self.assertEqual(self.births(("pair", 1)), (1,))
        self.assertEqual(self.births(("fun", 3)), (1, 3))
        self.assertEqual(self.births(("pair", 2)), (1, 2, 3, 4, 5, 6, 8, 9))
        self.assertEqual(self.births(1, (), (6,)), (6,))
        self.assertEqual(self.births(1, (), (9,)), (8, 9))
        self.assertEqual(self.births(("rest", 8)), (8, 9))
        self.assertEqual(self.births(("rest", 16)), (16,))
        self.assertEqual(self.births(("rest", 5)), (4, 5, 6, 8, 9))
        self.assertEqual(self.births(("rest", 10)), (1, 3, 4, 7, 8, 9, 10, 11))
        self.assertEqual(self.births(1, (), (11,)), (1, 3, 7, 11))
        self.assertEqual(self.births(1, (), (12,)), (1, 4, 8, 9, 12))
        self.assertEqual(self.births(1, (), (13,)), (1, 3, 7, 11, 13))
        self.assertEqual(self.births(1, (), (14,)), (1, 14))
        self.assertEqual(self.births(1, (), (15,)), (15,))
        self.assertEqual(self.births(1, (), (17,)), (1, 3, 6, 7, 11, 17))

    def test_callee_handed_and_frames_all_count(self):
        self.assertEqual(self.births(("pair", 1), (("pair", 7), 3), (6, 15)), (1, 6, 7, 15))
        self.assertEqual(self.births(("pair", 1), [("pair", 7)], [6, 6]), (1, 6, 7))

    def test_both_kinds_of_then(self):
        things = {1: ("pair", 0, 0), 2: ("fun", 1, ()), 3: ("pair", 0, 0), 4: ("mark",),
                  5: ("way", ("on", (4,)), ("call", ("fun", 2), (("pair", 1), 7, ("pair", 3)))),
                  6: ("way", ("to", (4,), 0), ("give", ("pair", 3))), 7: ("way", ("off",), ("call", ("fun", 2), (("pair", 3),))),
                  8: ("way", ("out",), ("give", ("fun", 2))), 9: ("way", ("off",), ("call", 0, (("pair", 1), ("pair", 3))))}
        for birth, births in ((9, [1, 3, 9]), (5, [1, 2, 3, 4, 5]), (6, [3, 4, 6]), (7, [2, 3, 7]), (8, [2, 8])):
            self.assertEqual([found for found, _ in reached(1, (), (birth,), things)], births)

    def test_rings(self):
        things = {1: ("pair", ("pair", 2), 0), 2: ("pair", 0, ("fun", 3)), 3: ("fun", 1, (("pair", 1),)), 4: ("mark",)}
        self.assertEqual(reached(("fun", 3), (), (), things), ((1, things[1]), (2, things[2]), (3, things[3])))

    def test_thousands_in_a_chain(self):
        things = {n: ("pair", ("pair", n + 1), n) for n in range(1, 20000)}
        things[20000] = ("pair", 0, 0)
        self.assertEqual(len(reached(("pair", 1), (), (), things)), 20000)
        self.assertEqual(len(reached(("pair", 19991), (), (), things)), 10)
        births = [birth for birth, _ in reached(("pair", 1), (), (), things)]
        self.assertEqual(births, list(range(1, 20001)))

    def test_the_dict_is_not_changed(self):
        things = dict(self.THINGS)
        reached(("rest", 10), (("pair", 2),), (12, 13), things)
        self.assertEqual(things, self.THINGS)


if __name__ == "__main__":
    unittest.main()
