"""writestand.py: [14.1] to [14.4]."""

import unittest

from makestandings import EASY, well_standing
from writtenprograms import TEXTS

from goonagain.heldframes import count_beginnings
from goonagain.plain import PlainMachine
from goonagain.program import Program
from goonagain.standing import Standing
from goonagain.writestand import standing_text

TEXT = """standing
counts 7 1 2 30
call r20 f2 p1 r22 -3 none
frames 3 4 5 6 8 10 11 12 23
1 pair 5 p1
2 fun 1 r20
3 wait 2 1 2
4 wait 3 1 true p1
5 mark
6 wind f2 -1000000000
7 wait 0 false
8 way to 1 0 4 0 give none
9 wind 0 0
10 way on 0 0 1 9 call r21 1 true
11 way off call 3
12 way out give p1
20 keep 0 4 1 7
21 piece 0 0 2 6 7
22 once 0 0 0 1 23
23 pass 22
24 once 1 0 0 0
25 keep 20 5 2 10 11
26 keep 25 6 1 12
27 keep 21 1 0
28 piece 0 0 0
29 way on 10 1 1 7 give f2"""
STANDING = Standing(
    ("rest", 20), (("fun", 2), ("pair", 1), ("rest", 22), -3, ("none",)), (3, 4, 5, 6, 8, 10, 11, 12, 23), (
        (1, ("pair", 5, ("pair", 1))), (2, ("fun", 1, (("rest", 20),))), (3, ("wait", 2, (1, 2))), (4, ("wait", 3, (1, ("true",), ("pair", 1)))),
        (5, ("mark",)), (6, ("wind", ("fun", 2), -10 ** 9)), (7, ("wait", 0, (("false",),))), (8, ("way", ("to", (3, 4, 5, 6), 1), ("give", ("none",)))),
        (9, ("wind", 0, 0)), (10, ("way", ("on", (9,)), ("call", ("rest", 21), (1, ("true",))))), (11, ("way", ("off",), ("call", 3, ()))),
        (12, ("way", ("out",), ("give", ("pair", 1)))), (20, ("keep", (3, 4, 5, 6, 7))), (21, ("piece", (6, 7))), (22, ("once", (23,), 0)),
        (23, ("pass", 22)), (24, ("once", (), 1)), (25, ("keep", (3, 4, 5, 6, 7, 10, 11))), (26, ("keep", (3, 4, 5, 6, 7, 10, 12))),
        (27, ("keep", (6,))), (28, ("piece", ())), (29, ("way", ("on", (9, 7)), ("give", ("fun", 2))))),
    30, 7, 1, 2)


def listed(text):
    """How many births a text lists on its line of frames and as those of rows."""
    lines = text.split("\n")
    many = len(lines[3].split(" ")) - 1
    for line in lines[4:]:
        words = line.split(" ")[1:]
        if words[0] in ("keep", "piece"):
            many += int(words[3])
        elif words[0] == "once":
            many += int(words[4])
        elif words[:2] == ["way", "to"]:
            many += int(words[5])
        elif words[:2] == ["way", "on"]:
            many += int(words[4])
    return many


class Written(unittest.TestCase):
    def test_whole(self):
        self.assertEqual(standing_text(STANDING), TEXT)
        self.assertFalse(standing_text(STANDING).endswith("\n"))

    def test_heads(self):
        self.assertEqual(standing_text(Standing(0, (), (), (), 0, 0, 0, 0)), "standing\ncounts 0 0 0 0\ncall 0\nframes")
        self.assertEqual(standing_text(Standing(("rest", 12), (("true",), ("fun", 3)), (7,), (), 10 ** 9, 2000, 40, 12)),
                         "standing\ncounts 2000 40 12 1000000000\ncall r12 true f3\nframes 7")

    def test_a_run(self):
        machine = PlainMachine(Program("(+ 1 (keep k (k 5)))"))
        self.assertEqual(standing_text(machine.standing()), "standing\ncounts 0 0 0 2\ncall r2 5\nframes 1\n1 wait 0 1\n2 keep 0 1 0")

    def rows(self, frames, things, *due):
        text = standing_text(Standing(1, (), frames, tuple(sorted(things.items())), 99, 0, 0, 0))
        lines = [line for line in text.split("\n")[4:] if line.split(" ")[1] in ("keep", "once", "piece", "way")]
        self.assertEqual(tuple(lines), due)

    def test_from_is_the_first_row_that_begins_so(self):
        self.rows((1, 2), {3: ("keep", (1, 2, 4)), 5: ("keep", (1, 2, 4, 6)), 7: ("keep", (1, 2, 4, 6)), 8: ("keep", (1, 2, 6)), 9: ("keep", (1, 4))},
                  "3 keep 0 2 1 4", "5 keep 3 3 1 6", "7 keep 5 4 0", "8 keep 0 2 1 6", "9 keep 0 1 1 4")
        # Rows without a frame in common begin with nothing: 0 and 0.
        self.rows((), {3: ("keep", (1,)), 5: ("keep", (2, 1)), 6: ("keep", (1, 2)), 7: ("keep", (2,))},
                  "3 keep 0 0 1 1", "5 keep 0 0 2 2 1", "6 keep 3 1 1 2", "7 keep 5 1 0")
        self.rows((1, 2, 3), {4: ("keep", ()), 5: ("keep", (2, 3)), 6: ("keep", (1, 2, 3))}, "4 keep 0 0 0", "5 keep 0 0 2 2 3", "6 keep 0 3 0")

    def test_rows_come_in_the_order_of_the_things(self):
        # A way frame's road is a row of its birth, between those of the rests.
        self.rows((1,), {2: ("keep", (5, 6)), 3: ("way", ("to", (5, 6, 7), 2), ("give", 1)), 4: ("piece", (5, 6, 7)), 8: ("once", (5, 6, 7, 9), 0),
                         9: ("way", ("on", (5, 6, 7, 9)), ("call", 1, (2, 3)))},
                  "2 keep 0 0 2 5 6", "3 way to 2 2 2 1 7 give 1", "4 piece 3 3 0", "8 once 0 3 3 1 9", "9 way on 8 4 0 call 1 2 3")
        # Roads without frames are no rows.
        self.rows((1,), {2: ("way", ("off",), ("call", ("fun", 5), (("rest", 6), ("none",)))), 3: ("way", ("out",), ("give", -1)), 4: ("keep", (1, 2))},
                  "2 way off call f5 r6 none", "3 way out give -1", "4 keep 0 1 1 2")

    def test_the_same_birth_twice_in_a_row(self):
        self.rows((1, 2, 1, 2), {3: ("keep", (1, 2, 1, 2, 1)), 4: ("piece", (2, 1, 2)), 5: ("piece", (2, 1, 1))},
                  "3 keep 0 4 1 1", "4 piece 0 0 3 2 1 2", "5 piece 4 2 1 1")

    def test_it_judges_nothing(self):
        # Births that name nothing, out of order, things that are not well.
        text = standing_text(Standing(("pair", 77), (), (9, 8), ((9, ("once", (), 0)), (4, ("pass", 1)), (4, ("wait", 99, ()))), 1, 5, 6, 7))
        self.assertEqual(text, "standing\ncounts 5 6 7 1\ncall p77\nframes 9 8\n9 once 0 0 0 0\n4 pass 1\n4 wait 99")

    def test_births_listed_are_the_beginnings(self):
        many = 0
        for seed in range(200):
            program = Program((EASY + TEXTS)[seed % (len(EASY) + len(TEXTS))])
            standing = well_standing(program, (4, 5), seed)
            self.assertEqual(listed(standing_text(standing)), count_beginnings(standing))
        for text in TEXTS:
            machine = PlainMachine(Program(text), (1, 2), 40)
            while machine.outcome is None:
                self.assertEqual(listed(standing_text(machine.standing())), count_beginnings(machine.standing()))
                many += 1
                machine.advance()
        self.assertGreater(many, 200)

    def test_thousands_of_frames(self):
        program = Program("(rec ((f (fn (n) (keep k (+ 1 (if (= n 0) (1) (f (- n 1)))))))) (f 1500))")
        machine = PlainMachine(program)
        for _ in range(1501):
            machine.advance()
        standing = machine.standing()
        text = standing_text(standing)
        self.assertEqual(listed(text), count_beginnings(standing))
        self.assertLess(len(text), 200000)


if __name__ == "__main__":
    unittest.main()
