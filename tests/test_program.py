"""program.py: [2.4] to [2.9], written out by hand."""

import unittest

from makeprograms import good_tree

from goonagain.errors import BadName, BadText
from goonagain.plainset import without_set
from goonagain.printer import program_text
from goonagain.program import Program
from goonagain.reader import read_program


def v(n):
    return ("value", n)


def s(k):
    return ("slot", k)


NONE, TRUE, FALSE = ("none",), ("true",), ("false",)


class Flat(unittest.TestCase):
    def flat(self, text, bodies, places=()):
        program = Program(text)
        self.assertEqual(program.bodies, bodies, text)
        self.assertEqual(program.places, places, text)

    def row(self, text, *rows):
        """The rows of a program that is one body without places."""
        self.flat(text, ((0, 0, rows),))

    def test_simple_forms(self):
        self.row("7", ("give", v(7)))
        self.row("true", ("give", v(TRUE)))
        self.row("false", ("give", v(FALSE)))
        self.row("none", ("give", v(NONE)))
        self.row("(ask)", ("give", ("ask",)))
        self.row("(show 1)", ("give", ("show", v(1))))
        self.row("(+ 1 (show (- (ask) 2)))", ("give", ("op", "+", (v(1), ("show", ("op", "-", (("ask",), v(2))))))))
        self.row("(left (pair none (left! 1 2)))",
                 ("give", ("op", "left", (("op", "pair", (v(NONE), ("op", "left!", (v(1), v(2))))),))))

    def test_example_3_11(self):
        self.flat("(+ 1 (keep k (k 5)))",
                  ((0, 0, (("let", v(1)), ("wait", 0, (("keep",), ("call", s(1), (v(5),)))))),),
                  ((0, 1, (("give", ("op", "+", (s(0), s(1)))),)),))

    def test_operands_that_are_all_simple_stay_in_the_row(self):
        self.row("(1 2 (+ 3 4))", ("call", v(1), (v(2), ("op", "+", (v(3), v(4))))))
        self.row("((ask))", ("call", ("ask",), ()))

    def test_operands_of_which_one_may_call(self):
        self.flat("(1 2 (3) 4)",
                  ((0, 0, (("let", v(1)), ("let", v(2)), ("wait", 0, (("call", v(3), ()),)))),),
                  ((0, 2, (("let", v(4)), ("call", s(0), (s(1), s(2), s(3))))),))
        self.flat("(+ (1) (2))",
                  ((0, 0, (("wait", 0, (("call", v(1), ()),)),)),),
                  ((0, 0, (("wait", 1, (("call", v(2), ()),)),)), (0, 1, (("give", ("op", "+", (s(0), s(1)))),))))
        self.flat("((1))", ((0, 0, (("wait", 0, (("call", v(1), ()),)),)),), ((0, 0, (("call", s(0), ()),)),))
        self.flat("(show (1))", ((0, 0, (("wait", 0, (("call", v(1), ()),)),)),), ((0, 0, (("give", ("show", s(0))),)),))
        # A do, a let or an if is not simple, though it calls nothing.
        self.flat("(show (do 1))", ((0, 0, (("wait", 0, (("give", v(1)),)),)),), ((0, 0, (("give", ("show", s(0))),)),))
        self.flat("(+ 5 (mark 6))", ((0, 0, (("let", v(5)), ("wait", 0, (("mark",), ("give", v(6)))))),),
                  ((0, 1, (("give", ("op", "+", (s(0), s(1)))),)),))

    def test_a_place_is_numbered_ahead_of_those_in_its_right_side(self):
        self.flat("(show (show (1)))",
                  ((0, 0, (("wait", 0, (("wait", 1, (("call", v(1), ()),)),)),)),),
                  ((0, 0, (("give", ("show", s(0))),)), (0, 0, (("give", ("show", s(0))),))))
        self.flat("(+ (show (1)) (2))",
                  ((0, 0, (("wait", 0, (("wait", 1, (("call", v(1), ()),)),)),)),),
                  ((0, 0, (("wait", 2, (("call", v(2), ()),)),)), (0, 0, (("give", ("show", s(0))),)),
                   (0, 1, (("give", ("op", "+", (s(0), s(1)))),))))

    def test_if(self):
        self.row("(if 1 2 3)", ("if", v(1), (("give", v(2)),), (("give", v(3)),)))
        self.flat("(if (1) (2) (if 3 4 5))",
                  ((0, 0, (("wait", 0, (("call", v(1), ()),)),)),),
                  ((0, 0, (("if", s(0), (("call", v(2), ()),), (("if", v(3), (("give", v(4)),), (("give", v(5)),)),)),)),))
        self.flat("(if 1 (show (2)) (show (3)))",
                  ((0, 0, (("if", v(1), (("wait", 0, (("call", v(2), ()),)),), (("wait", 1, (("call", v(3), ()),)),)),)),),
                  ((0, 0, (("give", ("show", s(0))),)), (0, 0, (("give", ("show", s(0))),))))
        # What is bound in one branch does not count in the other.
        self.row("(if 1 (let ((x 2)) x) (let ((y 3)) y))",
                 ("if", v(1), (("let", v(2)), ("give", s(0))), (("let", v(3)), ("give", s(0)))))

    def test_do(self):
        self.row("(do 1)", ("give", v(1)))
        self.row("1 2 3", ("let", v(1)), ("let", v(2)), ("give", v(3)))
        self.flat("(1) 2 (3)", ((0, 0, (("wait", 0, (("call", v(1), ()),)),)),),
                  ((0, 0, (("let", v(2)), ("call", v(3), ()))),))
        self.flat("(do (do 1 2) 3)", ((0, 0, (("wait", 0, (("let", v(1)), ("give", v(2)))),)),), ((0, 0, (("give", v(3)),)),))

    def test_let(self):
        self.row("(let ((x 1) (y 2)) (+ x y))", ("let", v(1)), ("let", v(2)), ("give", ("op", "+", (s(0), s(1)))))
        self.row("(let ((x 1)) (let ((x x)) x))", ("let", v(1)), ("let", s(0)), ("give", s(1)))
        self.flat("(let ((x (1)) (y 2)) (y x))", ((0, 0, (("wait", 0, (("call", v(1), ()),)),)),),
                  ((0, 0, (("let", v(2)), ("call", s(1), (s(0),)))),))
        # Items of a do take slots as well.
        self.row("0 (let ((x 1)) 5 x)", ("let", v(0)), ("let", v(1)), ("let", v(5)), ("give", s(1)))

    def test_fn(self):
        self.flat("(fn () 1)", ((0, 0, (("give", ("fun", 1, ())),)), (0, 0, (("give", v(1)),))))
        self.flat("(let ((b 1) (a 2) (c 3)) (fn (x y) (b x a)))",
                  ((0, 0, (("let", v(1)), ("let", v(2)), ("let", v(3)), ("give", ("fun", 1, (1, 0))))),
                   (2, 2, (("call", s(3), (s(0), s(2))),))))
        # A body is made flat wholly before the form behind it.
        self.flat("((fn () (fn () 1)) (fn () 2))",
                  ((0, 0, (("call", ("fun", 1, ()), (("fun", 3, ()),)),)), (0, 0, (("give", ("fun", 2, ())),)),
                   (0, 0, (("give", v(1)),)), (0, 0, (("give", v(2)),))))
        # What is bound in a body stands behind its captured values.
        self.flat("(let ((a 1)) (fn (x) (let ((y 2)) (+ (+ x a) y))))",
                  ((0, 0, (("let", v(1)), ("give", ("fun", 1, (0,))))),
                   (1, 1, (("let", v(2)), ("give", ("op", "+", (("op", "+", (s(0), s(1))), s(2))))))))

    def test_places_of_bodies(self):
        self.flat("(show ((fn (x) (show (x 1))) 2))",
                  ((0, 0, (("wait", 0, (("call", ("fun", 1, ()), (v(2),)),)),)),
                   (1, 0, (("wait", 1, (("call", s(0), (v(1),)),)),))),
                  ((0, 0, (("give", ("show", s(0))),)), (1, 1, (("give", ("show", s(1))),))))

    def test_rec(self):
        self.flat("(rec ((f (fn (x) (g x))) (g (fn () f))) (f 1))",
                  ((0, 0, (("rec", ((1, (1,)), (2, (0,)))), ("call", s(0), (v(1),)))),
                   (1, 1, (("call", s(1), (s(0),)),)), (0, 1, (("give", s(0)),))))
        self.flat("(let ((a 5)) (rec ((g (fn () (a f g))) (f (fn () (fn () f)))) g))",
                  ((0, 0, (("let", v(5)), ("rec", ((1, (0, 2, 1)), (2, (2,)))), ("give", s(1)))),
                   (0, 3, (("call", s(0), (s(1), s(2))),)), (0, 1, (("give", ("fun", 3, (0,))),)), (0, 1, (("give", s(0)),))))

    def test_keep_and_once(self):
        for word in ("keep", "once"):
            self.row(f"({word} k 1)", (word,), ("give", v(1)))
            self.row(f"0 ({word} k (k (pair k 1)))", ("let", v(0)), (word,), ("call", s(1), (("op", "pair", (s(1), v(1))),)))
        self.row("(keep a (once b (a b)))", ("keep",), ("once",), ("call", s(0), (s(1),)))

    def test_mark(self):
        self.row("(mark 1)", ("mark",), ("give", v(1)))
        self.row("(let ((x 1)) (mark (mark (x))))", ("let", v(1)), ("mark",), ("mark",), ("call", s(0), ()))

    def test_take(self):
        self.flat("(take k (k 1))", ((0, 0, (("take", ("fun", 1, ())),)), (1, 0, (("call", s(0), (v(1),)),))))
        self.flat("(let ((x 1)) (take k (x k)))",
                  ((0, 0, (("let", v(1)), ("take", ("fun", 1, (0,))))), (1, 1, (("call", s(1), (s(0),)),))))

    def test_wind(self):
        # Enter, leave, then the body, though the row has the body in the middle.
        self.flat("(wind (fn () 1) (fn () 2) (fn () 3))",
                  ((0, 0, (("wind", ("fun", 1, ()), ("fun", 3, ()), ("fun", 2, ())),)), (0, 0, (("give", v(1)),)),
                   (0, 0, (("give", v(3)),)), (0, 0, (("give", ("fun", 4, ())),)), (0, 0, (("give", v(2)),))))
        self.flat("(let ((x 1)) (wind x (x 2) (3)))",
                  ((0, 0, (("let", v(1)), ("let", s(0)), ("wait", 0, (("call", v(3), ()),)))),
                   (0, 1, (("call", s(0), (v(2),)),))),
                  ((0, 2, (("wind", s(1), ("fun", 1, (0,)), s(2)),)),))

    def test_show_and_ask(self):
        self.row("(show (show (ask)))", ("give", ("show", ("show", ("ask",)))))
        self.flat("(show (mark (ask)))", ((0, 0, (("wait", 0, (("mark",), ("give", ("ask",)))),)),),
                  ((0, 0, (("give", ("show", s(0))),)),))

    def test_set_is_taken_out(self):
        self.row("(let ((x 1)) (set x 2))", ("let", v(1)), ("let", ("op", "pair", (s(0), v(NONE)))),
                 ("give", ("op", "left!", (s(1), v(2)))))

    def test_every_body_ends_in_a_final_row(self):
        final = ("give", "if", "wait", "call", "take", "wind")

        def check(rows):
            self.assertIsInstance(rows, tuple)
            for row in rows[:-1]:
                self.assertIn(row[0], ("let", "rec", "keep", "once", "mark"))
            self.assertIn(rows[-1][0], final)
            if rows[-1][0] == "if":
                check(rows[-1][2])
                check(rows[-1][3])
            if rows[-1][0] == "wait":
                check(rows[-1][2])
        for seed in range(60):
            tree = good_tree(seed)
            if tree is not None:
                program = Program.of_tree(tree)
                for body in program.bodies + program.places:
                    check(body[2])


class Attributes(unittest.TestCase):
    def test_of_a_text(self):
        text = " (let ((x 1))\n (set x 2) x)"
        program = Program(text)
        self.assertEqual(program.text, text)
        self.assertEqual(program.tree, read_program(text))
        self.assertEqual(program.plain, without_set(read_program(text)))
        self.assertIsInstance(program.bodies, tuple)
        self.assertIsInstance(program.places, tuple)

    def test_of_a_tree(self):
        tree = read_program("(fn (x) 1 2)")
        program = Program.of_tree(tree)
        self.assertIsInstance(program, Program)
        self.assertEqual(program.text, "(fn (x) (do 1 2))")
        self.assertEqual(program.tree, tree)
        self.assertEqual(program.bodies, Program("(fn (x) 1 2)").bodies)

    def test_bad_text_goes_ahead_of_bad_name(self):
        with self.assertRaises(BadText) as caught:
            Program("(x ?)")
        self.assertEqual((caught.exception.place, caught.exception.what), (3, "word"))
        with self.assertRaises(BadName) as caught:
            Program("(x y)")
        self.assertEqual((caught.exception.what, caught.exception.name), ("unknown", "x"))
        with self.assertRaises(BadName) as caught:
            Program.of_tree(("fn", ("a", "a"), ("number", 1)))
        self.assertEqual((caught.exception.what, caught.exception.name), ("twice", "a"))

    def test_trees_that_are_no_programs(self):
        def refused(tree, what, place):
            with self.assertRaises(BadText) as caught:
                Program.of_tree(tree)
            self.assertEqual((caught.exception.what, caught.exception.place), (what, place))
        deep = ("number", 1)
        for _ in range(31):
            deep = ("show", deep)
        refused(deep, "deep", 180)
        refused(("do", (("do", (("number", 1000000000),) * 10),) * 30), "long", 3000)
        refused(("do", (("number", 1),) * 11), "many", 0)
        fns = ("do", (("do", (("fn", (), ("number", 1)),) * 10),) * 7)
        refused(fns, "funs", len(program_text(fns)))

    def test_numbers_of_bodies_at_the_bounds(self):
        program = Program(("(do " + "(fn () 1)" * 10 + ")") * 6)
        self.assertEqual(len(program.bodies), 61)
        nested = "(show " * 29 + "(1)" + ")" * 29
        self.assertEqual(len(Program(nested).places), 29)


if __name__ == "__main__":
    unittest.main()
