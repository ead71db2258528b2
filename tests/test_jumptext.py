"""jumptext.py: [11.7]."""

import random
import re
import unittest

from makeprograms import good_tree
from writtenprograms import TEXTS

from goonagain.errors import BadListing
from goonagain.jumpcode import JumpCode, compiled_jumps
from goonagain.jumptext import jump_text, read_jumps
from goonagain.program import Program

# What a line may be, put down as patterns, to compare with.
N = "(?:0|[1-9][0-9]{0,4})"
VALUE = "(?:true|false|none|0|-?(?:1000000000|[1-9][0-9]{0,8}))"
OP = r"(?:\+|-|\*|quot|rem|<|=|same\?|pair|left!|right!|left|right|pair\?|none\?|rest\?|fun\?)"
LINE = re.compile("|".join((
    f"value {N} {VALUE}", f"copy {N} {N}", f"fun {N} {N}(?: {N})*", f"op {N} {OP}(?: {N})*", f"show {N} {N}", f"ask {N}",
    f"rec {N}(?: {N})+", f"keep {N}", f"once {N}", "mark", f"save {N}", f"unless {N} {N}", f"jump {N}", f"back {N}",
    f"call {N}(?: {N})*", f"take {N}", f"wind {N} {N} {N}")))


def pairs_end_well(line):
    """Whether the pairs of a rec line end where the line does."""
    numbers = [int(word) for word in line.split(" ")[2:]]
    at = 0
    while at + 1 < len(numbers):
        at += 2 + numbers[at + 1]
    return at == len(numbers)


def first_bad_line(text):
    """The first bad line of a text, or None."""
    lines = text.split("\n")
    for number, line in enumerate(lines[:-1], 1):
        if number <= 2:
            good = re.fullmatch(("starts", "returns")[number - 1] + f"(?: {N})*", line)
        else:
            good = LINE.fullmatch(line) and (not line.startswith("rec") or pairs_end_well(line))
        if not good:
            return number
    return len(lines) if lines[-1] or len(lines) < 3 else None


class Listings(unittest.TestCase):
    def both(self, text, code):
        self.assertEqual(jump_text(code), text)
        found = read_jumps(text)
        self.assertEqual(found, code)
        for thing in (found.rows, found.starts, found.returns) + found.rows:
            self.assertIsInstance(thing, tuple)

    def row(self, line, row):
        self.both("starts 0\nreturns\n" + line + "\n", JumpCode((row,), (0,), ()))

    def test_heads(self):
        self.both("starts\nreturns\n", JumpCode((), (), ()))
        self.both("starts 0\nreturns\n", JumpCode((), (0,), ()))
        self.both("starts 0 10 99999\nreturns 7 3 3\nmark\nmark\n", JumpCode((("mark",), ("mark",)), (0, 10, 99999), (7, 3, 3)))

    def test_each_instruction(self):
        for line, row in (
            ("value 0 1", ("value", 0, 1)), ("value 3 -5", ("value", 3, -5)), ("value 3 0", ("value", 3, 0)),
            ("value 0 1000000000", ("value", 0, 10 ** 9)), ("value 0 -1000000000", ("value", 0, -10 ** 9)),
            ("value 0 true", ("value", 0, ("true",))), ("value 0 false", ("value", 0, ("false",))), ("value 0 none", ("value", 0, ("none",))),
            ("copy 1 0", ("copy", 1, 0)), ("fun 2 1", ("fun", 2, 1, ())), ("fun 2 1 0 99999", ("fun", 2, 1, (0, 99999))),
            ("show 1 0", ("show", 1, 0)), ("ask 4", ("ask", 4)), ("keep 1", ("keep", 1)), ("once 1", ("once", 1)), ("mark", ("mark",)),
            ("save 3", ("save", 3)), ("unless 0 12", ("unless", 0, 12)), ("jump 12", ("jump", 12)), ("back 0", ("back", 0)),
            ("call 0", ("call", 0, ())), ("call 0 1 2", ("call", 0, (1, 2))), ("take 5", ("take", 5)), ("wind 1 2 3", ("wind", 1, 2, 3)),
            ("rec 2 1 0", ("rec", 2, ((1, ()),))), ("rec 2 1 2 3 4", ("rec", 2, ((1, (3, 4)),))),
            ("rec 0 1 1 1 2 0 3 2 0 1", ("rec", 0, ((1, (1,)), (2, ()), (3, (0, 1))))),
        ):
            self.row(line, row)

    def test_each_word_of_an_op(self):
        for word in "+ - * quot rem < = same? pair left! right! left right pair? none? rest? fun?".split():
            self.row(f"op 2 {word} 0 1", ("op", 2, word, (0, 1)))
            # How many cells it reads is not looked at.
            self.row(f"op 2 {word}", ("op", 2, word, ()))
            self.row(f"op 2 {word} 1 2 3 4", ("op", 2, word, (1, 2, 3, 4)))

    def test_a_whole_code(self):
        text = "\n".join(("starts 0", "returns 5", "value 0 1", "save 0", "keep 1", "value 2 5", "call 1 2", "op 2 + 0 1", "back 2", ""))
        code = compiled_jumps(Program("(+ 1 (keep k (k 5)))"))
        self.both(text, code)

    def test_many_codes(self):
        programs = [Program(text) for text in TEXTS]
        programs += [Program.of_tree(tree) for tree in map(good_tree, range(150)) if tree is not None]
        for program in programs:
            code = compiled_jumps(program)
            self.both(jump_text(code), code)

    def test_thousands_of_lines(self):
        rows = (("value", 0, 1), ("rec", 0, ((1, tuple(range(50))),) * 4)) * 3000
        code = JumpCode(rows, tuple(range(2000)), tuple(range(2000)))
        self.both(jump_text(code), code)

    def test_lists(self):
        code = JumpCode([("mark",), ("call", 0, (1,))], [0], [1, 2])
        self.assertEqual(jump_text(code), "starts 0\nreturns 1 2\nmark\ncall 0 1\n")


class Bad(unittest.TestCase):
    def bad(self, text, line):
        with self.assertRaises(BadListing) as caught:
            read_jumps(text)
        self.assertEqual(caught.exception.line, line, repr(text))

    def test_the_end(self):
        self.bad("", 1)
        self.bad("\n", 1)
        self.bad("starts 0", 1)
        self.bad("starts 0\n", 2)
        self.bad("starts 0\n\n", 2)
        self.bad("starts 0\nreturns", 2)
        self.bad("starts 0\nreturns\nmark", 3)
        self.bad("starts 0\nreturns\nmark\n\n", 4)
        self.bad("starts 0\nreturns\nmark\nmark\n ", 5)
        # An earlier fault comes first.
        self.bad("starts 0\nreturn\nmark", 2)
        self.bad("starts 0\nreturns\nmarks\nmark", 3)
        self.bad("start", 1)

    def test_heads(self):
        for line in ("starts 01", "starts -1", "starts -0", "starts 100000", "starts x", "starts ", "starts  1", " starts", "starts 1 ",
                     "Starts 0", "returns 0", "", "starts,0", "starts +1", "starts 1.0", "starts\t1", "starts true", "mark"):
            self.bad(line + "\nreturns\n", 1)
        for line in ("return", "returns 00", "returns -3", "returns  0", "starts 0", "", "mark", "returns 1\r"):
            self.bad("starts 0\n" + line + "\n", 2)

    def test_instructions(self):
        for line in (
            "", " ", "marks", "mark 1", "mark ", " mark", "MARK", "starts 0", "returns", "value", "value 0", "value 0 1 2", "value 0  1",
            "value -1 5", "value 0 01", "value 0 -0", "value 0 +1", "value 0 1000000001", "value 0 -1000000001", "value 0 10000000000",
            "value 0 True", "value 0 nones", "value 0 (true,)", "value 00 1", "value 0 --1", "value 0 -", "value 0 1_0", "value 0 p1",
            "copy 1", "copy 1 2 3", "copy 1 x", "copy 1 -2", "fun 1", "fun", "fun 1 2 x", "fun 1 2 3 ", "fun 1 2  3", "op 1", "op", "op 1 show 0",
            "op 1 ask", "op 1 fn 0", "op 1 ++ 0 1", "op + 1", "op 1 + x", "op 1 + 00", "show 1", "show 1 2 3", "ask", "ask 1 2", "keep",
            "keep 1 2", "once", "once 1 0", "save", "save 1 2", "unless 1", "unless 1 2 3", "jump", "jump 1 2", "jump 1x", "jump 0x1", "back",
            "back 1 2", "back 100000", "call", "call x", "call 1 x", "take", "take 1 2", "wind 1 2", "wind 1 2 3 4", "wind", "give 0",
            "rec", "rec 1", "rec 1 2", "rec 1 2 1", "rec 1 2 1 3 4", "rec 1 2 0 3", "rec 1 2 0 3 2 4", "rec 1 2 00", "rec 1 2 -1", "rec 1 2 3 1 1 ",
            "nop", "value 0 \u0661", "back \u0661", "back 1\x0b",
        ):
            self.bad("starts 0\nreturns\n" + line + "\nback 0\n", 3)
            self.bad("starts 0\nreturns\nmark\nmark\n" + line + "\n", 5)

    def test_each_number(self):
        for line in ("value 1 2", "copy 1 2", "fun 1 2 3 4", "op 1 + 3 4", "show 1 2", "ask 1", "rec 1 2 1 4 5 0", "keep 1", "once 1", "save 1",
                     "unless 1 2", "jump 1", "back 1", "call 1 2 3", "take 1", "wind 1 2 3"):
            words = line.split(" ")
            for at in range(1, len(words)):
                if words[at] == "+":
                    continue
                others = ("01", "00", "-0", "x", "", "1 ", "+1", "1.0", "None", "-", "\u0662")
                if words[0] != "value" or at == 1:
                    others = others + ("-1", "true", "none", "100000")
                for other in others:
                    changed = " ".join(words[:at] + [other] + words[at + 1:])
                    self.bad("starts 0\nreturns\n" + changed + "\n", 3)

    def test_the_first_bad_line(self):
        self.bad("starts 0\nreturns\nmark\nmarks\nmarks\n", 4)
        self.bad("x\ny\nz\n", 1)
        self.bad("starts\nreturns 0\nback 01\nback", 3)

    def test_other_line_feeds(self):
        self.bad("starts 0\r\nreturns\r\n", 1)
        self.bad("starts 0\rreturns\r", 1)
        self.bad("starts 0\nreturns\nmark\x0cmark\n", 3)


class Changed(unittest.TestCase):
    """Listings with one sign or line changed, cut or doubled: read if they are listings."""

    SIGNS = "0123456789- \n+*<=?!abcdeflnorstuvwk.x"

    def check(self, text):
        bad = first_bad_line(text)
        if bad is None:
            self.assertEqual(jump_text(read_jumps(text)), text)
        else:
            with self.assertRaises(BadListing) as caught:
                read_jumps(text)
            self.assertEqual(caught.exception.line, bad, repr(text))
        return bad is None

    def test_changed_listings(self):
        chance = random.Random(11)
        good = bad = 0
        for seed, text in enumerate(TEXTS):
            listing = jump_text(compiled_jumps(Program(text)))
            self.assertTrue(self.check(listing))
            lines = listing.split("\n")
            for _ in range(60):
                at = chance.randrange(len(listing))
                row = chance.randrange(len(lines))
                sign = chance.choice(self.SIGNS)
                other = chance.choice(lines)
                for changed in (listing[:at] + sign + listing[at + 1:], listing[:at] + sign + listing[at:], listing[:at] + listing[at + 1:],
                                listing[:at], listing[:at] + listing[at] + listing[at:], "\n".join(lines[:row] + lines[row + 1:]),
                                "\n".join(lines[:row] + [other] + lines[row:]), "\n".join(lines[:row] + [other] + lines[row + 1:])):
                    if self.check(changed):
                        good += 1
                    else:
                        bad += 1
        self.assertGreater(good, 500)
        self.assertGreater(bad, 500)


if __name__ == "__main__":
    unittest.main()
