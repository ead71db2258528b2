"""compiler.py: [7.2], [7.4], [7.6], [7.7]."""

import random
import unittest

from makeprograms import good_tree
from writtenprograms import TEXTS

from goonagain.codejudge import code_fault
from goonagain.compiler import code_text, compiled_code, turned_code
from goonagain.program import Program
from goonagain.rows import Code


def lines_of(code):
    """What stands behind the address of each instruction."""
    return [line.partition(": ")[2] for line in code_text(code).split("\n")]


def count_simples(simples):
    many = 0
    for simple in simples:
        many += 1
        if simple[0] == "op":
            many += count_simples(simple[2])
        elif simple[0] == "show":
            many += count_simples(simple[1:])
    return many


def count_rows(rows):
    """How many rows and simples there are."""
    many = 0
    for row in rows:
        many += 1
        if row[0] == "wait":
            many += count_rows(row[2])
        elif row[0] == "if":
            many += count_simples(row[1:2]) + count_rows(row[2]) + count_rows(row[3])
        elif row[0] == "call":
            many += count_simples(row[1:2] + row[2])
        elif row[0] != "rec":
            many += count_simples(row[1:])
    return many


class Compiled(unittest.TestCase):
    """Bodies first, then places, each as the table of [7.2] says it; written out by hand."""

    def code(self, text, bodies, places, *rows):
        code = compiled_code(Program(text))
        self.assertEqual(code, Code(rows, places, bodies), code_text(code))
        self.assertIsNone(code_fault(Program(text), code))

    def test_give_and_simples(self):
        self.code("7", (0,), (), ("value", 7), ("give", 0))
        self.code("none", (0,), (), ("value", ("none",)), ("give", 0))
        self.code("(show (+ (* 1 (ask)) -2))", (0,), (),
                  ("value", 1), ("ask",), ("op", "*", 2), ("value", -2), ("op", "+", 2), ("show",), ("give", 0))
        self.code("(left (fn () true))", (0, 3), (),
                  ("fun", 1, ()), ("op", "left", 1), ("give", 0), ("value", ("true",)), ("give", 0))

    def test_let_and_call(self):
        self.code("(let ((x 1)) (let ((y (show x))) (y x 2)))", (0,), (),
                  ("value", 1), ("slot", 0), ("show",), ("slot", 1), ("slot", 0), ("value", 2), ("call", 2, 0))
        self.code("(1)", (0,), (), ("value", 1), ("call", 0, 0))

    def test_funs_that_capture(self):
        self.code("(let ((b 1) (a 2)) (fn (x) (x b a)))", (0, 4), (),
                  ("value", 1), ("value", 2), ("fun", 1, (1, 0)), ("give", 0),
                  ("slot", 0), ("slot", 2), ("slot", 1), ("call", 2, 0))

    def test_funs_that_capture_above_a_marker(self):
        # b is slot 2, but a marker lies at 2: its offset is 3.
        self.code("(let ((a 1)) (+ a (let ((b 2)) (b (fn () (a b))))))", (0, 7), (10,),
                  ("value", 1), ("slot", 0), ("wait", 0), ("value", 2), ("slot", 3), ("fun", 1, (0, 3)), ("call", 1, 3),
                  ("slot", 0), ("slot", 1), ("call", 1, 0), ("slot", 1), ("slot", 2), ("op", "+", 2), ("give", 0))

    def test_wait(self):
        self.code("(+ 1 (+ 2 (3)))", (0,), (6, 10),
                  ("value", 1), ("wait", 0), ("value", 2), ("wait", 1), ("value", 3), ("call", 0, 4),
                  ("slot", 0), ("slot", 1), ("op", "+", 2), ("give", 0),
                  ("slot", 2), ("slot", 3), ("op", "+", 2), ("give", 2))

    def test_keep(self):
        self.code("(+ 1 (keep k (k 5)))", (0,), (6,),
                  ("value", 1), ("wait", 0), ("keep", 2), ("slot", 2), ("value", 5), ("call", 1, 2),
                  ("slot", 0), ("slot", 1), ("op", "+", 2), ("give", 0))
        self.code("(keep k k)", (0,), (), ("keep", 0), ("slot", 0), ("give", 0))

    def test_once(self):
        self.code("(+ 1 (once k (+ 2 (k 5))))", (0,), (8, 12),
                  ("value", 1), ("wait", 0), ("once", 2, (0,)), ("value", 2), ("wait", 1), ("slot", 1), ("value", 5), ("call", 1, 4),
                  ("slot", 0), ("slot", 1), ("op", "+", 2), ("give", 0),
                  ("slot", 2), ("slot", 3), ("op", "+", 2), ("give", 0))
        self.code("(once k k)", (0,), (), ("once", 0, ()), ("slot", 0), ("give", 0))

    def test_mark(self):
        self.code("(+ 1 (mark (+ 2 (3))))", (0,), (7, 11),
                  ("value", 1), ("wait", 0), ("mark", 2, (0,)), ("value", 2), ("wait", 1), ("value", 3), ("call", 0, 3),
                  ("slot", 0), ("slot", 1), ("op", "+", 2), ("give", 0),
                  ("slot", 1), ("slot", 2), ("op", "+", 2), ("give", 0))
        # Offsets with a gap, where a marker lay, are copied one beside the other.
        self.code("(+ 1 (+ 2 (mark (3))))", (0,), (7, 11),
                  ("value", 1), ("wait", 0), ("value", 2), ("wait", 1), ("mark", 4, (0, 2)), ("value", 3), ("call", 0, 0),
                  ("slot", 0), ("slot", 1), ("op", "+", 2), ("give", 0),
                  ("slot", 2), ("slot", 3), ("op", "+", 2), ("give", 2))

    def test_take(self):
        self.code("(let ((x 9)) (show (take k (k x))))", (0, 4), (7,),
                  ("value", 9), ("wait", 0), ("fun", 1, (0,)), ("take", 2),
                  ("slot", 0), ("slot", 1), ("call", 1, 0), ("slot", 1), ("show",), ("give", 0))
        self.code("(take k k)", (0, 2), (), ("fun", 1, ()), ("take", 0), ("slot", 0), ("give", 0))

    def test_wind(self):
        self.code("(let ((x 9)) (+ x (wind (fn () 1) x (fn () 2))))", (0, 7, 9, 11), (13,),
                  ("value", 9), ("slot", 0), ("wait", 0), ("fun", 1, ()), ("fun", 3, (0,)), ("fun", 2, ()), ("wind", 3),
                  ("value", 1), ("give", 0), ("value", 2), ("give", 0), ("slot", 0), ("give", 0),
                  ("slot", 1), ("slot", 2), ("op", "+", 2), ("give", 0))

    def test_rec(self):
        self.code("(let ((a 1)) (+ a (rec ((f (fn () g)) (g (fn (b) (f a g b)))) (f g))))", (0, 7, 9), (14,),
                  ("value", 1), ("slot", 0), ("wait", 0), ("rec", ((1, (4,)), (2, (0, 3, 4)))), ("slot", 3), ("slot", 4),
                  ("call", 1, 3), ("slot", 0), ("give", 0),
                  ("slot", 2), ("slot", 1), ("slot", 3), ("slot", 0), ("call", 3, 0),
                  ("slot", 1), ("slot", 2), ("op", "+", 2), ("give", 0))

    def test_if(self):
        self.code("(if (ask) (show 1) (2))", (0,), (),
                  ("ask",), ("unless", 5), ("value", 1), ("show",), ("give", 0), ("value", 2), ("call", 0, 0))
        self.code("(if 1 (if 2 3 4) (if 5 6 7))", (0,), (),
                  ("value", 1), ("unless", 8), ("value", 2), ("unless", 6), ("value", 3), ("give", 0), ("value", 4), ("give", 0),
                  ("value", 5), ("unless", 12), ("value", 6), ("give", 0), ("value", 7), ("give", 0))
        self.code("(show (if 1 (2) 3))", (0,), (7,),
                  ("wait", 0), ("value", 1), ("unless", 5), ("value", 2), ("call", 0, 1), ("value", 3), ("give", 1),
                  ("slot", 0), ("show",), ("give", 0))

    def test_of_many_programs(self):
        programs = [Program(text) for text in TEXTS]
        programs += [Program.of_tree(tree) for tree in map(good_tree, range(150)) if tree is not None]
        for program in programs:
            code = compiled_code(program)
            self.assertIsNone(code_fault(program, code))
            self.assertNotIn("jump", [row[0] for row in code.rows])
            rows = [body[2] for body in program.bodies] + [place[2] for place in program.places]
            self.assertLessEqual(len(code.rows), sum(map(count_rows, rows)))
            self.assertEqual((len(code.bodies), len(code.places)), (len(program.bodies), len(program.places)))
            for thing in (code.rows, code.bodies, code.places):
                self.assertIsInstance(thing, tuple)
            self.assertEqual(code, compiled_code(program))


class Texts(unittest.TestCase):
    def test_line_by_line(self):
        code = compiled_code(Program("(let ((a 1) (b none)) (rec ((f (fn () (b)))) (if (< a -2) (show (once k (f true b))) false)))"))
        self.assertEqual(code_text(code), "\n".join((
            "0: value 1", "1: value none", "2: rec ((1,(1)))", "3: slot 0", "4: value -2", "5: op < 2", "6: unless 13",
            "7: wait 0", "8: once 4 (0,1,2)", "9: slot 2", "10: value true", "11: slot 1", "12: call 2 0", "13: value false",
            "14: give 0", "15: slot 0", "16: call 0 0", "17: slot 3", "18: show", "19: give 0")))

    def test_each_item(self):
        rows = (("ask",), ("value", 0), ("value", ("false",)), ("fun", 3, ()), ("fun", 3, (7,)), ("fun", 3, (7, 10)),
                ("rec", ((1, ()), (2, (5, 6)))), ("mark", 0, ()), ("jump", 12), ("op", "left!", 2), ("rec", ()))
        self.assertEqual(lines_of(Code(rows, (), ())), [
            "ask", "value 0", "value false", "fun 3 ()", "fun 3 (7)", "fun 3 (7,10)", "rec ((1,()),(2,(5,6)))", "mark 0 ()",
            "jump 12", "op left! 2", "rec ()"])

    def test_no_line_feed_at_the_end(self):
        self.assertEqual(code_text(Code((("ask",),), (), ())), "0: ask")
        self.assertEqual(code_text(Code((), (), ())), "")


class TurnedCode(unittest.TestCase):
    PROGRAM = Program("(if (ask) (show 1) (2))")
    CODE = compiled_code(PROGRAM)

    def test_no_cuts(self):
        for cuts in ((), [], (0, 7, 8, -1, 100), (0, 0)):
            self.assertEqual(turned_code(self.CODE, cuts), self.CODE)
        open_end = Code((("ask",), ("value", 1)), (), (0,))
        for cuts in ((), (0,), (2,), [0, 2, -1], (True, False), ("1", None)):
            self.assertEqual(turned_code(open_end, cuts), open_end)

    def test_one_cut(self):
        # ask, unless | value, show, give, value, call: the first run goes on.
        code = turned_code(self.CODE, (2,))
        self.assertEqual(code, Code((("value", 1), ("show",), ("give", 0), ("value", 2), ("call", 0, 0),
                                     ("ask",), ("unless", 3), ("jump", 0)), (), (5,)))
        self.assertIsNone(code_fault(self.PROGRAM, code))
        # Behind give nothing goes on.
        self.assertEqual(turned_code(self.CODE, [5]), Code((
            ("value", 2), ("call", 0, 0), ("ask",), ("unless", 0), ("value", 1), ("show",), ("give", 0)), (), (2,)))

    def test_cuts_in_any_order(self):
        due = Code((("value", 2), ("call", 0, 0), ("value", 1), ("show",), ("give", 0), ("ask",), ("unless", 0), ("jump", 2)), (), (5,))
        for cuts in ((2, 5), (5, 2), [5, 2, 5, 2, 0, 7, -3, 10 ** 9]):
            self.assertEqual(turned_code(self.CODE, cuts), due)

    def test_all_cuts(self):
        code = turned_code(self.CODE, range(1, 7))
        self.assertEqual(code, Code((
            ("call", 0, 0), ("value", 2), ("jump", 0), ("give", 0), ("show",), ("jump", 3), ("value", 1), ("jump", 4),
            ("unless", 1), ("jump", 6), ("ask",), ("jump", 8)), (), (10,)))
        self.assertIsNone(code_fault(self.PROGRAM, code))

    def test_jumps_are_changed_to_match(self):
        code = Code((("jump", 3), ("give", 0), ("jump", 1), ("value", 1), ("jump", 2)), (), (0,))
        program = Program("1")
        self.assertIsNone(code_fault(program, code))
        turned = turned_code(code, (2, 4))
        self.assertEqual(turned, Code((("jump", 1), ("jump", 5), ("value", 1), ("jump", 0), ("jump", 2), ("give", 0)), (), (4,)))
        self.assertIsNone(code_fault(program, turned))

    def test_a_number_that_is_no_address_stays(self):
        code = Code((("value", 1), ("jump", 9), ("unless", -1), ("jump", "x"), "junk", (), ("jump",), ("jump", 0, 0)), (8, True, None), (0, -1, 8))
        turned = turned_code(code, (1,))
        self.assertEqual(turned.rows, (("jump", 9), ("unless", -1), ("jump", "x"), "junk", (), ("jump",), ("jump", 0, 0),
                                       ("value", 1), ("jump", 0)))
        self.assertEqual((turned.places, turned.bodies), ((8, True, None), (7, -1, 8)))
        self.assertEqual(turned_code(Code((), (0,), (1,)), (0, 1)), Code((), (0,), (1,)))

    def test_each_word_that_ends_a_run(self):
        for row in (("give", 0), ("call", 0, 0), ("take", 0), ("wind", 0), ("jump", 0)):
            self.assertEqual(len(turned_code(Code((row, ("ask",)), (), (0,)), (1,)).rows), 2)
        for row in (("value", 1), ("slot", 0), ("fun", 1, ()), ("op", "+", 2), ("show",), ("ask",), ("rec", ((1, ()),)), ("keep", 0),
                    ("once", 0, ()), ("mark", 0, ()), ("wait", 0), ("unless", 0)):
            self.assertEqual(turned_code(Code((row, ("ask",)), (), (0,)), (1,)).rows[2], ("jump", 0))

    def test_rows_that_are_no_instructions(self):
        for row in (None, (), 7, "give", ["give", 0], ["jump", 1], ("jumps", 1), ("unless",), ("unless", 1, 1)):
            self.assertEqual(turned_code(Code((row, ("ask",)), (), (0,)), (1,)).rows, (("ask",), row, ("jump", 0)))
        for row in (("jump",), ("jump", 1, 1), ("give",), ("call", 1, 2, 3)):
            self.assertEqual(turned_code(Code((row, ("ask",)), (), (0,)), (1,)).rows, (("ask",), row))

    def test_what_fits_still_fits(self):
        chance = random.Random(1)
        for seed in range(120):
            tree = good_tree(seed)
            if tree is None:
                continue
            program = Program.of_tree(tree)
            code = compiled_code(program)
            for _ in range(4):
                cuts = [chance.randint(-2, len(code.rows) + 2) for _ in range(chance.choice((0, 1, 2, 5, 40)))]
                code = turned_code(code, cuts)
                self.assertIsNone(code_fault(program, code))
                self.assertIsInstance(code.rows, tuple)

    def test_what_does_not_fit_still_does_not(self):
        chance = random.Random(2)
        program = Program("(let ((x (ask))) (+ 1 (keep k (if x (k 5) (show (mark (take j (j k))))))))")
        code = compiled_code(program)
        for at in range(len(code.rows)):
            rows = code.rows[:at] + (("value", 99),) + code.rows[at + 1:]
            bad = Code(rows, code.places, code.bodies)
            self.assertIsNotNone(code_fault(program, bad))
            for _ in range(10):
                cuts = [chance.randint(0, len(rows)) for _ in range(3)]
                self.assertIsNotNone(code_fault(program, turned_code(bad, cuts)))
                self.assertIsNotNone(code_fault(program, turned_code(turned_code(bad, cuts), cuts)))

    def test_what_is_passed_is_not_changed(self):
        cuts, rows = [3, 1, 1], list(self.CODE.rows)
        code = Code(rows, [], [0])
        turned = turned_code(code, cuts)
        self.assertEqual((cuts, rows, code.bodies), ([3, 1, 1], list(self.CODE.rows), [0]))
        for thing in (turned.rows, turned.places, turned.bodies):
            self.assertIsInstance(thing, tuple)


if __name__ == "__main__":
    unittest.main()
