"""reader.py: [1.1] to [1.6]."""

import unittest

from goonagain.errors import BadText
from goonagain.reader import read_program


def number(n):
    return ("number", n)


def name(x):
    return ("name", x)


NONE, TRUE, FALSE, ASK = ("none",), ("true",), ("false",), ("ask",)
TWO = ("+", "-", "*", "quot", "rem", "<", "=", "same?", "pair", "left!", "right!")
ONE = ("left", "right", "pair?", "none?", "rest?", "fun?")
KEPT = ("true false none fn let rec set if do keep once take mark wind show ask quot rem pair left right").split()


class Reader(unittest.TestCase):
    def reads(self, text, tree):
        self.assertEqual(read_program(text), tree, text)

    def bad(self, text, place, what):
        with self.assertRaises(BadText) as caught:
            read_program(text)
        self.assertEqual((caught.exception.place, caught.exception.what), (place, what), text)


class Forms(Reader):
    def test_words(self):
        self.reads("7", number(7))
        self.reads("x", name("x"))
        self.reads("true", TRUE)
        self.reads("false", FALSE)
        self.reads("none", NONE)

    def test_each_form(self):
        self.reads("(fn () 1)", ("fn", (), number(1)))
        self.reads("(fn (a b) a)", ("fn", ("a", "b"), name("a")))
        self.reads("(let ((x 1) (y x)) y)", ("let", (("x", number(1)), ("y", name("x"))), name("y")))
        self.reads("(rec ((f (fn () 1))) f)", ("rec", (("f", ("fn", (), number(1))),), name("f")))
        self.reads("(set x 1)", ("set", "x", number(1)))
        self.reads("(if 1 2 3)", ("if", number(1), number(2), number(3)))
        self.reads("(do 1)", ("do", (number(1),)))
        self.reads("(do 1 2)", ("do", (number(1), number(2))))
        self.reads("(keep k 1)", ("keep", "k", number(1)))
        self.reads("(once k 1)", ("once", "k", number(1)))
        self.reads("(take k 1)", ("take", "k", number(1)))
        self.reads("(mark 1)", ("mark", number(1)))
        self.reads("(wind 1 2 3)", ("wind", number(1), number(2), number(3)))
        self.reads("(show 1)", ("show", number(1)))
        self.reads("(ask)", ASK)

    def test_ops(self):
        for word in TWO:
            self.reads(f"({word} 1 2)", ("op", word, (number(1), number(2))))
            for bad in (f"({word})", f"({word} 1)", f"({word} 1 2 3)"):
                self.bad(bad, 0, "form")
        for word in ONE:
            self.reads(f"({word} 1)", ("op", word, (number(1),)))
            for bad in (f"({word})", f"({word} 1 2)"):
                self.bad(bad, 0, "form")

    def test_calls(self):
        self.reads("(f)", ("call", name("f"), ()))
        self.reads("(f 1 2)", ("call", name("f"), (number(1), number(2))))
        self.reads("((f) 1)", ("call", ("call", name("f"), ()), (number(1),)))
        self.reads("(5 1)", ("call", number(5), (number(1),)))
        self.reads("(true)", ("call", TRUE, ()))
        self.reads("(none none)", ("call", NONE, (NONE,)))
        self.reads("((left 1))", ("call", ("op", "left", (number(1),)), ()))

    def test_bodies_of_several_forms(self):
        both = ("do", (number(1), number(2)))
        self.reads("1 2", both)
        self.reads("(fn () 1 2)", ("fn", (), both))
        self.reads("(let ((x 1)) 1 2)", ("let", (("x", number(1)),), both))
        self.reads("(rec ((f (fn () 1 2))) 1 2)", ("rec", (("f", ("fn", (), both)),), both))
        self.reads("(fn () (do 1))", ("fn", (), ("do", (number(1),))))
        self.reads("(fn () (do 1 2))", ("fn", (), both))
        self.reads("(do 1) (do 2)", ("do", (("do", (number(1),)), ("do", (number(2),)))))

    def test_blanks_and_line_feeds(self):
        tree = ("op", "+", (number(1), ("call", name("f"), ())))
        for text in ("(+ 1 (f))", "(+ 1(f))", " ( +  1 \n\n( f ) ) \n", "\n\n(\n+\n1\n(\nf\n)\n)\n", "(+ 1\n(f))  "):
            self.reads(text, tree)
        self.reads(" 1\n2 ", ("do", (number(1), number(2))))

    def test_what_is_returned_has_tuples_alone(self):
        def walk(tree):
            self.assertIsInstance(tree, (tuple, str, int))
            if isinstance(tree, tuple):
                for item in tree:
                    walk(item)
        walk(read_program("(rec ((f (fn (a) (let ((x 1)) (f x 1) (+ 1 2))))) (wind 1 (do 2 3) 4)) (f)"))


class Words(Reader):
    def test_numbers(self):
        for word in ("0", "1", "9", "10", "-1", "-10", "1000000000", "-1000000000", "999999999"):
            self.reads(word, number(int(word)))
        for word in ("-0", "00", "01", "-01", "1000000001", "-1000000001", "10000000000", "+1", "1-", "1a", "--1", "-",
                     "1.0", "1_0", "0x1", "9" * 100, "-" + "9" * 2000, "00000000001"):
            self.bad("(f " + word + ")", 3, "word")

    def test_names(self):
        for word in ("a", "z", "a1", "a-", "a-b", "a--", "abcdefghijkl", "a23456789012", "truely", "fn1", "left-", "lambda"):
            self.reads(word, name(word))
        for word in ("abcdefghijklm", "A", "aB", "a_b", "a!", "a?", "1a", "-a", "a.b", "?", "!", "left!", "pair?", "+", "<",
                     "'a", '"a"', "~", "a,b"):
            self.bad(" " + word, 1, "word")

    def test_kept_words_are_no_names(self):
        for word in KEPT:
            if word not in ("true", "false", "none"):
                self.bad(f"(f 1 {word})", 5, "word")
            self.bad(f"(fn ({word}) 1)", 5, "name")
            self.bad(f"(keep {word} 1)", 6, "name")
            self.bad(f"(set {word} 1)", 5, "name")
            self.bad(f"(let (({word} 1)) 1)", 7, "name")

    def test_a_word_as_first_word(self):
        self.bad("(foo? 1)", 1, "word")
        self.bad("(FN () 1)", 1, "word")
        self.bad("(+1 1)", 1, "word")


class Counts(Reader):
    def test_names_of_a_fn(self):
        eight = tuple("abcdefgh")
        self.reads("(fn (a b c d e f g h) a)", ("fn", eight, name("a")))
        self.bad("(fn (a b c d e f g h i) a)", 4, "many")

    def test_rows(self):
        rows = " ".join(f"(x{n} {n})" for n in range(10))
        self.reads(f"(let ({rows}) 1)", ("let", tuple((f"x{n}", number(n)) for n in range(10)), number(1)))
        self.bad(f"(let ({rows} (y 1)) 1)", 5, "many")
        funs = " ".join(f"(x{n} (fn () {n}))" for n in range(10))
        self.assertEqual(len(read_program(f"(rec ({funs}) 1)")[1]), 10)
        self.bad(f"(rec ({funs} (y (fn () 1))) 1)", 5, "many")

    def test_items(self):
        ten = " ".join("1" * 10)
        for first in ("do", "f", "(f)"):
            read_program(f"({first} {ten})")
            self.bad(f"0 ({first} {ten} 1)", 2, "many")
        nine = " ".join("1" * 9)
        read_program(f"(fn () {nine})")
        read_program(f"(let ((x 1)) {nine})")
        self.bad(f"(fn () {ten})", 0, "many")
        self.bad(f"(let ((x 1)) {ten})", 0, "many")
        # Too many items go ahead of a wrong count.
        self.bad(f"(show {ten} 1)", 0, "many")
        self.bad(f"(show {ten})", 0, "form")

    def test_forms_of_a_text(self):
        ten = " ".join("1234567890")
        self.assertEqual(len(read_program(ten)[1]), 10)
        self.bad(ten + " 1", 20, "many")
        self.bad(ten + "  (f) 1 2 3", 21, "many")
        self.bad("(?) " + ten, 22, "many")

    def test_depth(self):
        read_program("(f " * 30 + ")" * 30)
        self.bad("(f " * 31 + ")" * 31, 90, "deep")
        read_program("(f (f))" + "(f " * 30 + ")" * 30)
        # The brackets of lists count as well.
        read_program("(do " * 28 + "(fn (x) x)" + ")" * 28)
        self.bad("(do " * 29 + "(fn (x) x)" + ")" * 29, 29 * 4 + 4, "deep")

    def test_funs(self):
        fn, take, wind = "(fn () 1)", "(take k 1)", "(wind 1 2 3)"
        for one in (fn, take, wind):
            ten = "(do " + one * 10 + ")"
            read_program(ten * 6)
            text = ten * 6 + " " + fn
            self.bad(text, len(text), "funs")
            text = ten * 6 + " " + wind + " \n"
            self.bad(text, len(text), "funs")
        rec = "(rec (" + "".join(f"(x{n} (fn () 1))" for n in range(10)) + ") 1)"
        read_program(rec * 6)
        text = rec * 6 + take
        self.bad(text, len(text), "funs")
        # Only forms count, nested ones too.
        nested = "(fn () (take k (wind 1 (fn () 1) 3)))"
        read_program(("(do " + nested * 5 + ")") * 3)
        text = ("(do " + nested * 5 + ")") * 3 + fn
        self.bad(text, len(text), "funs")
        read_program("(do " + fn * 10 + ")" + " 1" * 8)

    def test_length(self):
        read_program("1" + " " * 2999)
        self.bad("1" + " " * 3000, 3000, "long")
        self.bad("(" * 5000, 3000, "long")
        self.bad("\t" + " " * 3000, 3000, "long")


class Faults(Reader):
    def test_sign(self):
        for sign in ("\t", "\r", "\x00", "\x1f", "\x7f", "\x80", "\xe9", "\u20ac", "\U0001f600", "\u00a0"):
            self.bad("1 " + sign, 2, "sign")
        read_program("1 \n")
        self.bad("1 ~", 2, "word")
        self.bad("))\t", 2, "sign")

    def test_brackets(self):
        self.bad(")", 0, "close")
        self.bad("1 )", 2, "close")
        self.bad("(f))", 3, "close")
        self.bad("(f)) (", 3, "close")
        self.bad("(", 1, "end")
        self.bad("(f (g) ", 7, "end")
        self.bad("", 0, "end")
        self.bad(" \n ", 3, "end")
        self.bad("(f " * 31, 90, "deep")
        self.bad(") " + "(f " * 31, 0, "close")
        self.bad("(f " * 31 + ")" * 40, 90, "deep")

    def test_form(self):
        self.bad("()", 0, "form")
        self.bad("(f ())", 3, "form")
        for text in ("(fn (x))", "(fn)", "(let ((x 1)))", "(let)", "(rec ((f (fn () 1))))", "(rec)", "(set x)", "(set)",
                     "(set x 1 2)", "(if 1 2)", "(if 1 2 3 4)", "(do)", "(keep k)", "(keep k 1 2)", "(once k)",
                     "(once k 1 2)", "(take k)", "(take k 1 2)", "(mark)", "(mark 1 2)", "(wind 1 2)", "(wind 1 2 3 4)",
                     "(show)", "(show 1 2)", "(ask 1)"):
            self.bad(text, 0, "form")

    def test_lists(self):
        self.bad("(fn x 1)", 4, "form")
        self.bad("(fn ? 1)", 4, "form")
        self.bad("(let x 1)", 5, "form")
        self.bad("(let () 1)", 5, "form")
        self.bad("(rec x 1)", 5, "form")
        self.bad("(rec () 1)", 5, "form")

    def test_rows(self):
        for word in ("let", "rec"):
            self.bad(f"({word} (x) 1)", 6, "form")
            self.bad(f"({word} (xy) 1)", 6, "form")
            self.bad(f"({word} (()) 1)", 6, "form")
            self.bad(f"({word} ((x)) 1)", 6, "form")
            self.bad(f"({word} ((x 1 2)) 1)", 6, "form")
            self.bad(f"({word} ((5 ?)) 1)", 7, "name")
            self.bad(f"({word} (((x) ?)) 1)", 7, "name")
        self.bad("(let ((x ?)) 1)", 9, "word")
        self.bad("(let ((x 1) y) 1)", 12, "form")

    def test_right_sides_of_a_rec(self):
        for side in ("5", "x", "?", "()", "(f)", "((fn () 1))", "(do (fn () 1))", "fn"):
            self.bad(f"(rec ((f {side})) 1)", 9, "form")
        self.bad("(rec ((f (fn))) 1)", 9, "form")
        self.bad("(rec ((f (fn 1 2))) 1)", 13, "form")
        self.bad("(rec ((f (fn (x) ?))) 1)", 17, "word")

    def test_names(self):
        for text, place in (("(fn (1) 1)", 5), ("(fn (a (b)) 1)", 7), ("(fn (a ?) 1)", 7), ("(keep 1 1)", 6),
                            ("(keep (k) 1)", 6), ("(once ? 1)", 6), ("(take none 1)", 6), ("(set 1 1)", 5), ("(set () ?)", 5),
                            ("(fn (abcdefghijklm) 1)", 5)):
            self.bad(text, place, "name")

    def test_words(self):
        self.bad("(f ? !)", 3, "word")
        self.bad("(do (f 1 set))", 9, "word")
        self.bad("(set x ?)", 7, "word")

    def test_order_of_the_groups(self):
        long = " " * 3000
        self.bad("\t" + long, 3000, "long")
        self.bad(")\t", 1, "sign")
        self.bad("? ? )", 4, "close")
        self.bad("() (", 4, "end")
        self.bad("? " * 10 + "( ", 22, "end")
        self.bad("? " * 11, 20, "many")
        fns = ("(do " + "(fn () 1)" * 10 + ")") * 6
        self.bad(fns + "(fn () ?)", len(fns) + 7, "word")
        self.bad(fns + "(fn () 1)" + "(fn)", len(fns) + 9, "form")

    def test_reading_order_within_the_forms(self):
        self.bad("(show) ?", 0, "form")
        self.bad("? (show)", 0, "word")
        self.bad("(f (g ?) ())", 6, "word")
        self.bad("(f () ?)", 3, "form")
        self.bad("(show ? ?)", 0, "form")
        self.bad("(let ((x ?) ()) 1)", 9, "word")
        self.bad("(let (() (x ?)) 1)", 6, "form")
        self.bad("(let ((1 ?)) 1)", 7, "name")
        self.bad("(let ((x 1) (y 2)) ?)", 19, "word")
        self.bad("(fn (1 ?) ?)", 5, "name")
        self.bad("(fn (a b c d e f g h 1) ?)", 4, "many")
        self.bad("(rec ((f ?) (1 ?)) ?)", 9, "form")
        self.bad("(rec ((1 ?)) ?)", 7, "name")
        self.bad("(wind (show) ? ?)", 6, "form")
        self.bad("(? ())", 1, "word")
        self.bad("(() ?)", 1, "form")


if __name__ == "__main__":
    unittest.main()
