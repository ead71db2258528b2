"""readstand.py: [14.5] to [14.7]."""

import random
import unittest

from makeprograms import good_tree
from makestandings import EASY, well_standing
from test_writestand import STANDING, TEXT
from writtenprograms import TEXTS

from goonagain.alike import closed_standing, renaming_between
from goonagain.errors import BadStanding
from goonagain.meaning import KINDS, made_machine
from goonagain.program import Program
from goonagain.readstand import read_standing
from goonagain.standing import Standing
from goonagain.writestand import standing_text

HEADS = "standing\ncounts 1 0 2 30\ncall r20 5\nframes 3 4"


class Reading(unittest.TestCase):
    def bad(self, text, place, what):
        with self.assertRaises(BadStanding) as caught:
            read_standing(text)
        self.assertEqual((caught.exception.place, caught.exception.what), (place, what), text)

    def things(self, *lines):
        """The things of a text with these lines behind the heads."""
        return read_standing("\n".join((HEADS,) + lines)).things

    def bad_things(self, place, what, *lines):
        self.bad("\n".join((HEADS,) + lines), place, what)


class Good(Reading):
    def test_written(self):
        self.assertEqual(read_standing(TEXT), STANDING)
        standing = read_standing(HEADS)
        self.assertEqual(standing, Standing(("rest", 20), (5,), (3, 4), (), 30, 1, 0, 2))
        for part in (standing.callee, standing.handed, standing.frames, standing.things):
            self.assertIsInstance(part, tuple)

    def test_least(self):
        text = "standing\ncounts 0 0 0 0\ncall 0\nframes"
        self.assertEqual(read_standing(text), Standing(0, (), (), (), 0, 0, 0, 0))

    def test_form_alone(self):
        # What is not well may be read: great numbers, births that name nothing, bodies and places that no program has.
        text = "standing\ncounts 9999999999 41 9999999999 0\ncall p9999999999 -9999999999 9999999999\nframes 7 7 1\n1 fun 0\n2 wait 9999999999\n3 pass 99"
        standing = read_standing(text)
        self.assertEqual(standing, Standing(("pair", 9999999999), (-9999999999, 9999999999), (7, 7, 1),
                                            ((1, ("fun", 0, ())), (2, ("wait", 9999999999, ())), (3, ("pass", 99))), 0, 9999999999, 41, 9999999999))
        self.assertEqual(standing_text(standing), text)

    def test_things(self):
        self.assertEqual(self.things("1 once 1 0 2 1 9", "2 once 0 0 0 0", "3 way to 0 0 0 0 give none"),
                         ((1, ("once", (3, 4, 9), 1)), (2, ("once", (), 0)), (3, ("way", ("to", (), 0), ("give", ("none",))))))
        self.assertEqual(self.things("1 way on 0 1 0 give 4", "5 way on 0 1 1 7 call true", "6 way to 12 5 2 0 give 1"),
                         ((1, ("way", ("on", (3,)), ("give", 4))), (5, ("way", ("on", (3, 7)), ("call", ("true",), ()))),
                          (6, ("way", ("to", (3, 7), 12), ("give", 1)))))


class Heads(Reading):
    def test_head(self):
        for text in ("", "\n", " standing", "standing ", "Standing", "standings", "stand", "standing \ncounts 0 0 0 0", "\nstanding", "counts 0 0 0 0", "standing\r\ncounts 0 0 0 0"):
            self.bad(text, 1, "head")

    def test_counts(self):
        for line in ("", "counts", "counts 0 0 0", "counts 0 0 0 0 0", "count 0 0 0 0", "counts  0 0 0 0", " counts 0 0 0 0", "counts 0 0 0 0 ", "counts 0 0 0 -1", "counts 0 0 0 x",
                     "counts 0 0 00 0", "counts 0 +1 0 0", "counts 0 0 -0 0", "counts 01 0 0 0", "counts 0 0 0 10000000000", "counts 0 0 0 1.", "counts 0 0 0 \u0661",
                     "counts 0 0 0 \u00b2", "0 0 0 0", "counts\t0 0 0 0", "counts 0 0 0 0\r", "counts 0 0 0 1_0"):
            self.bad("standing\n" + line + "\ncall 0\nframes", 2, "counts")
        self.bad("standing", 2, "counts")
        read_standing("standing\ncounts 0 0 0 9999999999\ncall 0\nframes")

    def test_call(self):
        for line in ("", "call", "call ", "calls 0", "call 0 ", "call  0", "call 0  1", " call 0", "call x", "call -0", "call 00", "call +1", "call -01", "call - 1", "call -", "call --1",
                     "call 10000000000", "call -10000000000", "call p", "call p0", "call p01", "call p-1", "call p+1", "call f10000000000", "call r1r", "call R1", "call k1", "call true1",
                     "call True", "call NONE", "call 1 maybe", "call rest", "call pair", "call p1 f", "call 1 p\u0661", "call ()", "call p 1"):
            self.bad("standing\ncounts 0 0 0 0\n" + line + "\nframes", 3, "call")
        self.bad("standing\ncounts 0 0 0 0", 3, "call")

    def test_frames(self):
        for line in ("", "frame", "frames ", "frames 0", "frames 1 0", "frames -1", "frames 01", "frames 1  2", "frames 1 ", " frames", "frames 10000000000", "frames r1", "frames 1 x", "framess 1"):
            self.bad("standing\ncounts 0 0 0 0\ncall 0\n" + line, 4, "frames")
        self.bad("standing\ncounts 0 0 0 0\ncall 0", 4, "frames")

    def test_the_first_line(self):
        self.bad("x\nx\nx\nx\nx", 1, "head")
        self.bad("standing\nx\nx\nx\nx", 2, "counts")
        self.bad("standing\ncounts 0 0 0 0\nx\nx\nx", 3, "call")
        self.bad("standing\ncounts 0 0 0 0\ncall 0\nx\nx", 4, "frames")
        self.bad("standing\ncounts 0 0 0 0\ncall 0\nframes\nx", 5, "thing")

    def test_lines_end_at_line_feeds_alone(self):
        for sign in ("\r", "\x0b", "\x0c", "\x1c", "\x85", "\u2028"):
            self.bad("standing" + sign + "counts 0 0 0 0\ncall 0\nframes", 1, "head")
            self.bad(HEADS + sign + "5 mark", 4, "frames")


class Things(Reading):
    def test_forms(self):
        for line in (
            "", " ", "5", "mark", "x mark", "0 mark", "-1 mark", "05 mark", "+5 mark", "10000000000 mark", "5 marks", "5 mark 1", "5 mark ", " 5 mark", "5  mark", "5 no", "5 ", "mark 5",
            "5 pair", "5 pair 1", "5 pair 1 2 3", "5 pair 1 x", "5 pair 1 -0", "5 pair  1 2", "5 pair 1 2 ", "5 wind", "5 wind 1", "5 wind 1 2 3", "5 wind 1 p0",
            "5 fun", "5 fun x", "5 fun -1", "5 fun 01", "5 fun 1 x", "5 fun 1 ", "5 fun 1 2  3", "5 fun r1", "5 wait", "5 wait -1", "5 wait 0 maybe", "5 wait p1",
            "5 pass", "5 pass 0", "5 pass -1", "5 pass r1", "5 pass 1 2", "5 pass 1 ",
            "5 keep", "5 keep 0", "5 keep 0 0", "5 keep 0 0 1", "5 keep 0 0 0 1", "5 keep 0 0 2 1", "5 keep 0 0 1 1 2", "5 keep 0 0 1 0", "5 keep 0 0 -1", "5 keep 0 -1 1 1", "5 keep -1 0 1 1",
            "5 keep 00 0 1 1", "5 keep 0 00 1 1", "5 keep 0 0 01 1", "5 keep 0 0 1 01", "5 keep 0 0 1 x", "5 keep 0 0 9999999999 1", "5 keep x 0 1 1", "5 keep 0 x 1 1", "5 keep 0 0 x 1",
            "5 piece", "5 piece 0 0 1", "5 piece 0 0 0 ", "5 once", "5 once 0", "5 once 0 0 0", "5 once 2 0 0 0", "5 once 00 0 0 0", "5 once -1 0 0 0", "5 once x 0 0 0", "5 once 1 0 0 0 1",
            "5 once 0 0 0 1", "5 once true 0 0 0",
            "5 way", "5 way no", "5 way out", "5 way out give", "5 way out give 1 2", "5 way out call 1", "5 way out giv 1", "5 way out give x", "5 way out give 1 ", "5 way  out give 1",
            "5 way off", "5 way off call", "5 way off give 1", "5 way off call x", "5 way off call 1 x", "5 way off call 1  2", "5 way off call ",
            "5 way to", "5 way to 0", "5 way to 0 0 0 0", "5 way to 0 0 0 0 give", "5 way to 0 0 0 0 call 1", "5 way to 0 0 0 0 give 1 2", "5 way to x 0 0 0 give 1", "5 way to -1 0 0 0 give 1",
            "5 way to 00 0 0 0 give 1", "5 way to 0 0 0 1 give 1", "5 way to 0 0 0 1 7", "5 way to 0 0 0 2 7 give 1", "5 way to 0 0 0 0 7 give 1",
            "5 way on", "5 way on 0 0 0", "5 way on 0 0 0 give", "5 way on 0 0 0 call", "5 way on 0 0 1 7 call", "5 way on 0 0 1 give 1", "5 way on 0 0 0 take 1", "5 way on 0 0 0 give 1 1",
        ):
            self.bad_things(5, "thing", line)
            # A line more does not change it.
            self.bad_things(5, "thing", line, "6 mark")

    def test_a_line_feed_at_the_end(self):
        self.bad(HEADS + "\n", 5, "thing")
        self.bad(HEADS + "\n5 mark\n", 6, "thing")
        self.bad(TEXT + "\n", len(TEXT.split("\n")) + 1, "thing")
        self.bad_things(6, "thing", "5 mark", "", "6 mark")

    def test_order(self):
        for lines in (("5 mark", "5 mark"), ("5 mark", "4 mark"), ("5 mark", "1 pair 1 2"), ("100 mark", "99 mark")):
            self.bad_things(6, "order", *lines)
        self.bad_things(7, "order", "5 mark", "6 mark", "6 mark", "x")
        self.assertEqual(len(self.things("1 mark", "2 mark", "9999999999 mark")), 3)
        # The form comes first, then the order, then the beginning.
        self.bad_things(6, "thing", "5 mark", "5 marks")
        self.bad_things(6, "order", "5 mark", "5 keep 99 1 0")

    def test_beginning(self):
        # Row 0 is 3 4.
        for line in (
            "5 keep 0 3 0",         # more than row 0 has
            "5 keep 1 1 0",         # no such row
            "5 keep 5 1 0",         # not an earlier one
            "5 keep 0 0 1 3",       # it shares 3 with row 0
            "5 keep 0 1 1 4",       # it shares both
            "5 keep 0 0 2 3 4",
            "5 keep 3 0 1 9",       # FROM is 0 where nothing is shared
            "5 keep 99 0 0",
            "5 piece 0 1 2 4 5", "5 once 0 0 0 1 3", "5 way to 0 0 0 1 3 give 1", "5 way on 0 1 1 4 give 1", "5 way on 0 9999999999 0 call 1",
        ):
            self.bad_things(5, "beginning", line)
        for line in ("5 keep 0 2 0", "5 keep 0 1 0", "5 keep 0 0 0", "5 keep 0 1 1 5", "5 keep 0 0 2 4 3", "5 keep 0 2 1 3"):
            self.assertEqual(len(self.things(line)), 1)

    def test_beginning_by_the_first_row(self):
        self.assertEqual(self.things("5 keep 0 1 1 9", "6 keep 5 2 1 8", "7 piece 6 3 0", "8 keep 0 2 1 9"),
                         ((5, ("keep", (3, 9))), (6, ("keep", (3, 9, 8))), (7, ("piece", (3, 9, 8))), (8, ("keep", (3, 4, 9)))))
        # A later row that begins so, a thing that has no row, and births that an earlier row has, too.
        self.bad_things(7, "beginning", "5 keep 0 1 1 9", "6 keep 5 2 1 8", "7 keep 6 2 0")
        self.bad_things(7, "beginning", "5 keep 0 1 1 9", "6 keep 5 2 1 8", "7 keep 6 1 0")
        self.bad_things(7, "beginning", "5 keep 0 1 1 9", "6 keep 5 2 1 8", "7 keep 5 1 0")
        self.bad_things(6, "beginning", "5 mark", "6 keep 5 0 0")
        self.bad_things(6, "beginning", "5 way out give 1", "6 keep 5 1 0")
        self.bad_things(6, "beginning", "5 pair 1 2", "6 keep 5 0 1 9")
        self.bad_things(6, "beginning", "5 keep 0 1 1 9", "6 keep 0 1 1 9")
        self.bad_things(6, "beginning", "5 keep 0 1 1 9", "6 keep 5 3 0")

    def test_of_two_faults_the_first_line(self):
        self.bad_things(5, "beginning", "5 keep 9 1 0", "x")
        self.bad_things(6, "beginning", "5 mark", "6 keep 9 1 0", "x", "2 mark")


class BackAndForth(Reading):
    def both(self, standing):
        text = standing_text(standing)
        self.assertEqual(read_standing(text), standing)
        self.assertEqual(standing_text(read_standing(text)), text)

    def test_standings_of_runs(self):
        for number, text in enumerate(TEXTS + EASY):
            machine = made_machine(KINDS[number % 4], Program(text), (1, 2), 60)
            while machine.outcome is None:
                self.both(machine.standing())
                machine.advance()
        for seed in range(150):
            tree = good_tree(seed, deep=6, gentle=True)
            if tree is not None:
                machine = made_machine(KINDS[seed % 4], Program.of_tree(tree), (1,), 30)
                while machine.outcome is None:
                    self.both(machine.standing())
                    machine.advance()

    def test_standings_that_no_run_comes_to(self):
        for seed in range(300):
            self.both(well_standing(Program((EASY + TEXTS)[seed % (len(EASY) + len(TEXTS))]), (4, 5), seed, most=25))

    def test_bent_texts(self):
        # What is read of a text that was bent is written as that text.
        chance = random.Random(5)
        texts = [standing_text(well_standing(Program((EASY + TEXTS)[seed % 10]), (4, 5), seed)) for seed in range(60)] + [TEXT]
        read = refused = 0
        for _ in range(12000):
            text = chance.choice(texts)
            at = chance.randrange(len(text))
            way = chance.randrange(4)
            if way == 0:
                text = text[:at] + chance.choice("0123456789 \n-+pfrx") + text[at + 1:]
            elif way == 1:
                text = text[:at] + text[at + 1:]
            elif way == 2:
                text = text[:at] + chance.choice("0123456789 \n-") + text[at:]
            else:
                lines = text.split("\n")
                other = chance.randrange(len(lines))
                lines[other] = chance.choice(lines)
                text = "\n".join(lines)
            try:
                standing = read_standing(text)
            except BadStanding as error:
                self.assertIn(error.what, ("head", "counts", "call", "frames", "thing", "order", "beginning"))
                self.assertTrue(1 <= error.place <= len(text.split("\n")) + 1)
                refused += 1
            else:
                self.assertEqual(standing_text(standing), text)
                read += 1
        self.assertGreater(read, 1000)
        self.assertGreater(refused, 1000)

    def test_texts_are_one_as_standings_are_equal(self):
        texts = {}
        for seed in range(200):
            standing = well_standing(Program(EASY[0]), (4, 5), seed, most=3)
            for text, other in texts.items():
                self.assertEqual(text == standing_text(standing), other == standing)
                self.assertEqual(standing_text(closed_standing(other)) == standing_text(closed_standing(standing)),
                                 renaming_between(other, standing) is not None)
            if len(texts) < 25:
                texts[standing_text(standing)] = standing

    def test_thousands_of_frames(self):
        program = Program("(rec ((f (fn (n) (keep k (+ 1 (if (= n 0) (1) (f (- n 1)))))))) (f 1500))")
        machine = made_machine("jump", program)
        for _ in range(1501):
            machine.advance()
        self.both(machine.standing())


if __name__ == "__main__":
    unittest.main()
