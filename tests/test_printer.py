"""printer.py: [1.7]."""

import unittest

from makeprograms import good_tree

from goonagain.printer import program_text
from goonagain.reader import read_program

TEXTS = (
    "0", "-1000000000", "1000000000", "x", "a-b-", "true", "false", "none", "(ask)", "(fn () 1)", "(fn (a) a)",
    "(fn (a b c d e f g h) h)", "(let ((x 1)) x)", "(let ((x 1) (y (f))) (do x y))", "(rec ((f (fn () 1)) (g (fn (x) f))) g)",
    "(set x 1)", "(if 1 2 3)", "(do 1)", "(do 1 (do 2) 3)", "(f)", "(f 1 2)", "((fn () 1))", "((f) (g 1))", "(keep k 1)",
    "(once k (k 1))", "(take k k)", "(mark (mark 1))", "(wind 1 (f) 3)", "(show (show 1))", "(+ 1 -1)", "(same? x none)",
    "(left! x (right! y 2))", "(pair? (left (right x)))", "(none? 1)", "(rest? 1)", "(fun? 1)", "(quot 1 2)", "(rem 1 2)",
    "(< 1 2)", "(= 1 2)", "(pair 1 2)", "(- (* 2 3) 4)", "(5 6)", "(none)",
)


class Printer(unittest.TestCase):
    def test_printed_texts_are_printed_again(self):
        for text in TEXTS:
            self.assertEqual(program_text(read_program(text)), text)

    def test_bodies_and_blanks(self):
        for text, printed in (
            ("1 2", "(do 1 2)"), ("(fn (a b) 1 2)", "(fn (a b) (do 1 2))"), ("(let ( (x 1) ) 1 2)", "(let ((x 1)) (do 1 2))"),
            ("(rec ((f (fn () 1 2))) 3\n4)", "(rec ((f (fn () (do 1 2)))) (do 3 4))"), (" ( f\n1 ) ", "(f 1)"),
            ("(fn()1)", "(fn () 1)"), ("(do 1)", "(do 1)"), ("(ask )", "(ask)"),
        ):
            self.assertEqual(program_text(read_program(text)), printed)

    def test_reading_gives_the_same_tree(self):
        many = 0
        for seed in range(150):
            tree = good_tree(seed)
            if tree is not None:
                many += 1
                text = program_text(tree)
                self.assertEqual(read_program(text), tree)
                self.assertNotIn("\n", text)
                self.assertNotIn("  ", text)
                self.assertNotIn("( ", text)
                self.assertNotIn(" )", text)
        self.assertGreater(many, 50)

    def test_a_tree_beyond_what_is_let_is_printed_too(self):
        tree = ("number", 1)
        for _ in range(40):
            tree = ("show", tree)
        self.assertEqual(program_text(tree), "(show " * 40 + "1" + ")" * 40)


if __name__ == "__main__":
    unittest.main()
