"""catching.py: [15.3], [15.8], [15.9]."""

import unittest

from makeplans import good_plan, shows_on_all

from goonagain.catching import catching_shown, catching_text

TEXT = ("(rec ((again (fn (i n f) (if (< i n) (do (f) (again (+ i 1) n f)) none))) (attempt (fn (f g) (let ((t (keep c (do (f c) none))))"
        " (if (none? t) none (do (show t) (g))))))) (attempt (fn (c) P) (fn () none)))")
ONE, TWO, OOPS, LEAVE = ("say", 1), ("say", 2), ("throw", 9), ("leave",)


class Thrown(Exception):
    pass


class Left(Exception):
    pass


def go(part, shown):
    """What [15.8] says, with Python's own errors."""
    word = part[0]
    if word == "say":
        shown.append(part[1])
    elif word == "throw":
        raise Thrown(part[1])
    elif word == "leave":
        raise Left()
    elif word == "both":
        go(part[1], shown)
        go(part[2], shown)
    elif word == "within":
        shown.append(part[1])
        try:
            go(part[2], shown)
        finally:
            shown.append(-part[1])
    elif word == "catch":
        try:
            go(part[1], shown)
            return
        except Thrown as error:
            shown.append(error.args[0])
        go(part[2], shown)
    else:
        try:
            for _ in range(part[1]):
                go(part[2], shown)
        except Left:
            pass


def meant(plan):
    shown = []
    try:
        go(plan, shown)
    except Thrown as error:
        shown.append(error.args[0])
    return tuple(str(number) for number in shown)


class Texts(unittest.TestCase):
    def text(self, plan, due):
        self.assertEqual(catching_text(plan), TEXT.replace("P", due))

    def test_each_part(self):
        self.text(ONE, "(show 1)")
        self.text(("say", -7), "(show -7)")
        self.text(OOPS, "(c 9)")
        self.text(("throw", -3), "(c -3)")
        self.text(("both", ONE, OOPS), "(do (show 1) (c 9))")
        self.text(("within", 4, ONE), "(wind (fn () (show 4)) (show 1) (fn () (show -4)))")
        self.text(("within", -4, ONE), "(wind (fn () (show -4)) (show 1) (fn () (show 4)))")
        self.text(("catch", ONE, TWO), "(attempt (fn (c) (show 1)) (fn () (show 2)))")
        self.text(("loop", 3, ONE), "(once w (again 0 3 (fn () (show 1))))")
        self.text(("loop", 0, LEAVE), "(once w (again 0 0 (fn () (w none))))")

    def test_parts_within(self):
        self.text(("loop", 2, ("catch", ("within", 5, ("both", OOPS, LEAVE)), ("loop", 4, LEAVE))),
                  "(once w (again 0 2 (fn () (attempt (fn (c) (wind (fn () (show 5)) (do (c 9) (w none)) (fn () (show -5))))"
                  " (fn () (once w (again 0 4 (fn () (w none)))))))))")


class Shown(unittest.TestCase):
    def shown(self, plan, *due):
        self.assertEqual(catching_shown(plan), tuple(str(number) for number in due))
        self.assertTrue(shows_on_all(self, catching_text(plan), catching_shown(plan)))

    def test_without_throws(self):
        self.shown(ONE, 1)
        self.shown(("both", ONE, TWO), 1, 2)
        self.shown(("within", 5, ONE), 5, 1, -5)
        self.shown(("within", 0, ONE), 0, 1, 0)
        self.shown(("catch", ONE, TWO), 1)
        self.shown(("loop", 3, ONE), 1, 1, 1)
        self.shown(("loop", 0, ONE))

    def test_throws_that_are_caught(self):
        self.shown(("catch", OOPS, TWO), 9, 2)
        self.shown(("catch", ("both", ONE, ("both", OOPS, ONE)), TWO), 1, 9, 2)
        self.shown(("both", ("catch", ("within", 5, OOPS), TWO), ONE), 5, -5, 9, 2, 1)
        self.shown(("catch", ("throw", -4), TWO), -4, 2)
        # The second part runs outside of that catch, within the next one.
        self.shown(("catch", ("catch", OOPS, ("throw", 8)), TWO), 9, 8, 2)
        self.shown(("catch", ("both", ("catch", OOPS, ONE), ("throw", 8)), TWO), 9, 1, 8, 2)

    def test_throws_that_nobody_catches(self):
        self.shown(OOPS, 9)
        self.shown(("both", ("both", ONE, OOPS), TWO), 1, 9)
        self.shown(("within", 5, ("within", 6, OOPS)), 5, 6, -6, -5, 9)
        self.shown(("catch", OOPS, ("throw", 8)), 9, 8)
        self.shown(("both", ("catch", OOPS, ("within", 5, ("throw", 8))), ONE), 9, 5, -5, 8)

    def test_throws_that_end_loops(self):
        self.shown(("catch", ("loop", 4, ("loop", 4, ("both", ONE, OOPS))), TWO), 1, 9, 2)
        self.shown(("loop", 3, ("catch", ("loop", 2, ("both", ONE, OOPS)), TWO)), *[1, 9, 2] * 3)
        self.shown(("loop", 3, OOPS), 9)

    def test_leaves(self):
        self.shown(("loop", 3, ("both", ONE, ("both", LEAVE, TWO))), 1)
        self.shown(("loop", 3, ("both", ("loop", 4, ("both", ONE, LEAVE)), TWO)), *[1, 2] * 3)
        self.shown(("loop", 2, ("within", 5, ("within", 6, LEAVE))), 5, 6, -6, -5)
        self.shown(("loop", 2, ("catch", ("within", 5, LEAVE), TWO)), 5, -5)
        self.shown(("loop", 2, ("catch", OOPS, ("both", LEAVE, ONE))), 9)
        self.shown(("both", ("loop", 2, ("within", 5, ("catch", LEAVE, TWO))), TWO), 5, -5, 2)
        self.shown(("within", 7, ("loop", 2, LEAVE)), 7, -7)

    def test_random_plans(self):
        ended = 0
        for seed in range(300):
            plan = good_plan("catching", seed, 0.95)
            self.assertEqual(catching_shown(plan), meant(plan))
            ended += shows_on_all(self, catching_text(plan), catching_shown(plan))
        self.assertGreater(ended, 290)


if __name__ == "__main__":
    unittest.main()
