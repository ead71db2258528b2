"""scopes.py: [2.1], [2.2]."""

import unittest

from goonagain.errors import BadName
from goonagain.reader import read_program
from goonagain.scopes import check_names, free_names, set_names


class Names(unittest.TestCase):
    def good(self, text):
        self.assertIsNone(check_names(read_program(text)), text)

    def bad(self, text, what, name):
        with self.assertRaises(BadName) as caught:
            check_names(read_program(text))
        self.assertEqual((caught.exception.what, caught.exception.name), (what, name), text)

    def test_what_binds_where(self):
        self.good("1")
        self.good("(fn (a b) (+ a b))")
        self.good("(let ((x 1) (y 2)) (+ x y))")
        self.good("(rec ((f (fn () (g))) (g (fn () (f)))) (f))")
        for word in ("keep", "once", "take"):
            self.good(f"({word} k (k 1))")
            self.bad(f"(do ({word} k 1) k)", "unknown", "k")
        self.good("(let ((x 1)) (fn (y) (set x y)))")
        self.bad("x", "unknown", "x")
        self.bad("(do (fn (a) a) a)", "unknown", "a")
        self.bad("(do (let ((x 1)) x) x)", "unknown", "x")
        self.bad("(do (rec ((f (fn () 1))) f) f)", "unknown", "f")

    def test_a_let_does_not_bind_in_its_right_sides(self):
        self.bad("(let ((x x)) 1)", "unknown", "x")
        self.bad("(let ((x 1) (y x)) 1)", "unknown", "x")
        self.bad("(let ((x (set x 1))) 1)", "unknown", "x")
        self.good("(let ((x 1)) (let ((x x) (y x)) 1))")

    def test_a_rec_binds_in_both(self):
        self.good("(rec ((f (fn () (set g 1))) (g (fn () f))) (set f g))")

    def test_targets_of_set(self):
        self.bad("(set x 1)", "unknown", "x")
        self.bad("(set x y)", "unknown", "x")
        self.bad("(let ((x 1)) (set x y))", "unknown", "y")
        self.bad("(fn (a) (do (set b c) d))", "unknown", "b")

    def test_twice(self):
        self.bad("(fn (a a) 1)", "twice", "a")
        self.bad("(fn (a b b a) 1)", "twice", "b")
        self.bad("(let ((x 1) (x 2)) 1)", "twice", "x")
        self.bad("(rec ((f (fn () 1)) (g (fn () 1)) (g (fn () 1)) (f (fn () 1))) 1)", "twice", "g")
        self.good("(fn (a) (fn (a) (let ((a a)) (rec ((a (fn (a) a))) (keep a a)))))")

    def test_a_form_that_binds_twice_goes_ahead_of_its_parts(self):
        self.bad("(fn (a a) z)", "twice", "a")
        self.bad("(let ((x z) (x 2)) z)", "twice", "x")
        self.bad("(rec ((f (fn () z)) (f (fn () 1))) 1)", "twice", "f")
        self.bad("(do z (fn (a a) 1))", "unknown", "z")
        self.bad("(let ((x (fn (a a) 1)) (y z)) 1)", "twice", "a")

    def test_the_first_fault_in_reading_order(self):
        self.bad("(p q)", "unknown", "p")
        self.bad("(let ((x p) (y q)) r)", "unknown", "p")
        self.bad("(let ((x 1)) (if x p q))", "unknown", "p")
        self.bad("(wind (fn () 1) p q)", "unknown", "p")
        self.bad("(wind p q r)", "unknown", "p")
        self.bad("(+ (- 1 p) q)", "unknown", "p")
        self.bad("(rec ((f (fn (x) p)) (g (fn (x) q))) r)", "unknown", "p")


class FreeNames(unittest.TestCase):
    def names(self, text, free, changed=()):
        tree = read_program(text)
        self.assertEqual(free_names(tree), free, text)
        self.assertEqual(set_names(tree), changed, text)

    def test_free_names(self):
        self.names("1", ())
        self.names("x", ("x",))
        self.names("(c b a b c)", ("a", "b", "c"))
        self.names("(b10 b9 b-)", ("b-", "b10", "b9"))
        self.names("(fn (a) (a b))", ("b",))
        self.names("(let ((x x) (y z)) (x y w))", ("w", "x", "z"))
        self.names("(rec ((f (fn (a) (f g a b)))) (f c))", ("b", "c", "g"))
        self.names("(keep k (k x))", ("x",))
        self.names("(once k (k x))", ("x",))
        self.names("(take k (k x))", ("x",))
        self.names("(do (keep k 1) k)", ("k",))
        self.names("(mark (wind e b l))", ("b", "e", "l"))
        self.names("(show (if p q (left r)))", ("p", "q", "r"))

    def test_set_names(self):
        self.names("(set x y)", ("x", "y"), ("x",))
        self.names("(do (set b 1) (set a 1) (set b 2) c)", ("a", "b", "c"), ("a", "b"))
        self.names("(fn (a) (do (set a 1) (set b a)))", ("b",), ("b",))
        self.names("(let ((x (set x 1))) (set x 2))", ("x",), ("x",))
        self.names("(let ((x (set y x))) (set x y))", ("x", "y"), ("y",))
        self.names("(rec ((f (fn () (set f (set g 1))))) (set f 1))", ("g",), ("g",))
        for word in ("keep", "once", "take"):
            self.names(f"({word} k (do (set k 1) (set j 2)))", ("j",), ("j",))
        self.names("(do (fn (x) (set x 1)) x)", ("x",))
        self.names("(do (fn (x) (set x 1)) (set x 2))", ("x",), ("x",))


if __name__ == "__main__":
    unittest.main()
