"""jumpcode.py: [11.1], [11.3], [11.4]."""

import unittest

from makeprograms import good_tree
from writtenprograms import TEXTS

from goonagain.jumpcode import JumpCode, compiled_jumps
from goonagain.jumpjudge import jump_fault
from goonagain.program import Program


class Compiled(unittest.TestCase):
    """Bodies first, then places, each as the tables of [11.3] say it; written out by hand."""

    def code(self, text, starts, returns, *rows):
        code = compiled_jumps(Program(text))
        self.assertEqual(code.rows, rows)
        self.assertEqual((code.starts, code.returns), (starts, returns))
        self.assertIsNone(jump_fault(Program(text), code))

    def test_give(self):
        self.code("7", (0,), (), ("value", 0, 7), ("back", 0))
        self.code("none", (0,), (), ("value", 0, ("none",)), ("back", 0))
        self.code("(ask)", (0,), (), ("ask", 0), ("back", 0))
        self.code("(fn (x) x)", (0, 2), (), ("fun", 0, 1, ()), ("back", 0), ("back", 0))

    def test_nested_simples(self):
        self.code("(show (+ (* 1 (ask)) -2))", (0,), (),
                  ("value", 0, 1), ("ask", 1), ("op", 0, "*", (0, 1)), ("value", 1, -2), ("op", 0, "+", (0, 1)), ("show", 0, 0), ("back", 0))
        # Slots cost nothing; what is no slot goes to the next free cell.
        self.code("(fn (x y) (pair x (pair (show y) (pair 1 x))))", (0, 2), (),
                  ("fun", 0, 1, ()), ("back", 0),
                  ("show", 2, 1), ("value", 3, 1), ("op", 3, "pair", (3, 0)), ("op", 2, "pair", (2, 3)), ("op", 2, "pair", (0, 2)), ("back", 2))

    def test_let(self):
        self.code("(let ((x 1)) (let ((y x)) (let ((z (show y))) (let ((f (fn () z))) (let ((a (ask))) (left f))))))", (0, 7), (),
                  ("value", 0, 1), ("copy", 1, 0), ("show", 2, 1), ("fun", 3, 1, (2,)), ("ask", 4), ("op", 5, "left", (3,)), ("back", 5),
                  ("back", 0))
        self.code("(let ((x (+ (ask) 1))) x)", (0,), (), ("ask", 0), ("value", 1, 1), ("op", 0, "+", (0, 1)), ("back", 0))

    def test_call(self):
        self.code("(let ((x 1)) (let ((y (show x))) (y x 2 y 3)))", (0,), (),
                  ("value", 0, 1), ("show", 1, 0), ("value", 2, 2), ("value", 3, 3), ("call", 1, (0, 2, 1, 3)))
        self.code("(1)", (0,), (), ("value", 0, 1), ("call", 0, ()))
        self.code("((fn () 1) (fn () 2))", (0, 3, 5), (),
                  ("fun", 0, 1, ()), ("fun", 1, 2, ()), ("call", 0, (1,)), ("value", 0, 1), ("back", 0), ("value", 0, 2), ("back", 0))

    def test_funs_that_capture(self):
        self.code("(let ((b 1) (a 2)) (fn (x) (x b a)))", (0, 4), (),
                  ("value", 0, 1), ("value", 1, 2), ("fun", 2, 1, (1, 0)), ("back", 2), ("call", 0, (2, 1)))

    def test_wait(self):
        self.code("(+ 1 (+ 2 (3)))", (0,), (6, 8),
                  ("value", 0, 1), ("save", 0), ("value", 1, 2), ("save", 1), ("value", 2, 3), ("call", 2, ()),
                  ("op", 2, "+", (0, 1)), ("back", 2), ("op", 3, "+", (1, 2)), ("back", 3))

    def test_keep_once_and_mark(self):
        for word in ("keep", "once"):
            self.code(f"(+ 1 ({word} k (k 5)))", (0,), (5,),
                      ("value", 0, 1), ("save", 0), (word, 1), ("value", 2, 5), ("call", 1, (2,)), ("op", 2, "+", (0, 1)), ("back", 2))
            self.code(f"({word} k k)", (0,), (), (word, 0), ("back", 0))
        self.code("(+ 1 (mark (3)))", (0,), (5,),
                  ("value", 0, 1), ("save", 0), ("mark",), ("value", 1, 3), ("call", 1, ()), ("op", 2, "+", (0, 1)), ("back", 2))

    def test_take(self):
        self.code("(let ((x 9)) (show (take k (k x))))", (0, 4), (5,),
                  ("value", 0, 9), ("save", 0), ("fun", 1, 1, (0,)), ("take", 1), ("call", 0, (1,)), ("show", 2, 1), ("back", 2))

    def test_wind(self):
        self.code("(let ((x 9)) (+ x (wind (fn () 1) x (fn () 2))))", (0, 7, 9, 11), (12,),
                  ("value", 0, 9), ("copy", 1, 0), ("save", 0), ("fun", 2, 1, ()), ("fun", 3, 3, (0,)), ("fun", 4, 2, ()), ("wind", 2, 3, 4),
                  ("value", 0, 1), ("back", 0), ("value", 0, 2), ("back", 0), ("back", 0), ("op", 3, "+", (1, 2)), ("back", 3))
        # Deeds that are slots already.
        self.code("(let ((f (fn () 1))) (wind f (f) f))", (0, 3, 5), (),
                  ("fun", 0, 1, ()), ("fun", 1, 2, (0,)), ("wind", 0, 1, 0), ("value", 0, 1), ("back", 0), ("call", 0, ()))

    def test_rec(self):
        self.code("(let ((a 1)) (+ a (rec ((f (fn () g)) (g (fn (b) (f a g b)))) (f g))))", (0, 5, 6), (7,),
                  ("value", 0, 1), ("copy", 1, 0), ("save", 0), ("rec", 2, ((1, (3,)), (2, (0, 2, 3)))), ("call", 2, (3,)),
                  ("back", 0), ("call", 2, (1, 3, 0)), ("op", 3, "+", (1, 2)), ("back", 3))

    def test_if(self):
        self.code("(if (ask) (show 1) (2))", (0,), (),
                  ("ask", 0), ("unless", 0, 5), ("value", 0, 1), ("show", 0, 0), ("back", 0), ("value", 0, 2), ("call", 0, ()))
        self.code("(fn (x) (if x (if (< x 1) 2 x) 3))", (0, 2), (),
                  ("fun", 0, 1, ()), ("back", 0),
                  ("unless", 0, 9), ("value", 1, 1), ("op", 1, "<", (0, 1)), ("unless", 1, 8), ("value", 1, 2), ("back", 1), ("back", 0),
                  ("value", 1, 3), ("back", 1))
        self.code("(show (if (1) 2 (3)))", (0,), (4, 6),
                  ("save", 0), ("save", 1), ("value", 0, 1), ("call", 0, ()), ("show", 1, 0), ("back", 1),
                  ("unless", 0, 9), ("value", 1, 2), ("back", 1), ("value", 1, 3), ("call", 1, ()))

    def test_of_many_programs(self):
        programs = [Program(text) for text in TEXTS]
        programs += [Program.of_tree(tree) for tree in map(good_tree, range(200)) if tree is not None]
        for program in programs:
            code = compiled_jumps(program)
            self.assertIsNone(jump_fault(program, code))
            self.assertEqual((len(code.starts), len(code.returns)), (len(program.bodies), len(program.places)))
            self.assertEqual(sorted(code.starts + code.returns), list(code.starts + code.returns))
            self.assertEqual(code, compiled_jumps(program))
            for thing in (code.rows, code.starts, code.returns):
                self.assertIsInstance(thing, tuple)


class Kept(unittest.TestCase):
    def test_it_keeps_what_it_is_given(self):
        code = JumpCode([1], None, "x")
        self.assertEqual((code.rows, code.starts, code.returns), ([1], None, "x"))

    def test_equal_by_all_three(self):
        parts = ((("value", 0, 1), ("back", 0)), (0,), ())
        self.assertTrue(JumpCode(*parts) == JumpCode(*parts))
        for at in range(3):
            other = list(parts)
            other[at] = (7,)
            self.assertFalse(JumpCode(*parts) == JumpCode(*other))
            self.assertTrue(JumpCode(*parts) != JumpCode(*other))
        self.assertFalse(JumpCode(*parts) == parts)


if __name__ == "__main__":
    unittest.main()
