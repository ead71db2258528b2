"""equals.py: [6.2] to [6.6]."""

import unittest

from makeprograms import good_tree

from goonagain.equals import TURN_NAMES, has_take, is_calm, is_literal, turn_here, uses_of, winds_guarded
from goonagain.errors import BadTurnName
from goonagain.printer import program_text
from goonagain.reader import read_program
from goonagain.trees import tree_at, tree_paths, tree_with
from goonagain.walker import walk_counted

PLAIN = ("number", 0)


class Kinds(unittest.TestCase):
    def test_literals(self):
        for text in ("0", "-5", "true", "false", "none"):
            self.assertIs(is_literal(read_program(text)), True, text)
        for text in ("x", "(ask)", "(fn () 1)", "(do 1)", "(mark 1)", "(+ 1 2)", "(show 1)", "(none? none)"):
            self.assertIs(is_literal(read_program(text)), False, text)

    def test_calm(self):
        for text in ("1", "true", "false", "none", "x", "(fn () (f))", "(fn (a) (show (ask)))", "(pair 1 x)", "(same? x none)",
                     "(pair? x)", "(none? 1)", "(rest? (pair 1 2))", "(fun? (fn () (left 1)))", "(pair (pair 1 2) (same? 1 2))"):
            self.assertIs(is_calm(read_program(text)), True, text)
        for text in ("(+ 1 2)", "(< 1 2)", "(= 1 2)", "(- 1 2)", "(* 1 2)", "(quot 1 2)", "(rem 1 2)", "(left x)", "(right x)",
                     "(left! x 1)", "(right! x 1)", "(ask)", "(show 1)", "(do 1)", "(do 1 2)", "(if 1 2 3)", "(f)", "(let ((x 1)) x)",
                     "(rec ((f (fn () 1))) f)", "(set x 1)", "(keep k 1)", "(once k 1)", "(take k 1)", "(mark 1)", "(wind 1 2 3)",
                     "(pair 1 (ask))", "(pair (left x) 1)", "(none? (f))", "(pair 1 (pair 2 (do 3)))", "(same? 1 (+ 1 2))"):
            self.assertIs(is_calm(read_program(text)), False, text)


class Uses(unittest.TestCase):
    def uses(self, text, *uses):
        self.assertEqual(uses_of(read_program(text), "x"), uses, text)

    def test_read(self):
        self.uses("x", ((), "read"))
        self.uses("y")
        self.uses("1")
        self.uses("(f x 1 x)", ((1,), "read"), ((3,), "read"))
        self.uses("(if (show x) (do 1 x) (left x))", ((0, 0), "read"), ((1, 1), "read"), ((2, 0), "read"))
        self.uses("(wind x 1 x)", ((0,), "read"), ((2,), "read"))
        self.uses("(mark (fn (y) x))", ((0, 0), "read"))

    def test_called(self):
        self.uses("(x 1)", ((0,), "called"))
        self.uses("(x)", ((0,), "read"))
        self.uses("(x 1 2)", ((0,), "read"))
        self.uses("(x x)", ((0,), "called"), ((1,), "read"))
        self.uses("(x (x 1))", ((0,), "called"), ((1, 0), "called"))
        self.uses("(y x)", ((1,), "read"))
        self.uses("((x 1) 2)", ((0, 0), "called"))
        self.uses("((do x) 2)", ((0, 0), "read"))
        self.uses("((set x 1) 2)", ((0,), "set"))
        self.uses("((set x x) x)", ((0,), "set"), ((0, 0), "read"), ((1,), "read"))

    def test_set(self):
        self.uses("(set x 1)", ((), "set"))
        self.uses("(set y x)", ((0,), "read"))
        self.uses("(set x (set x x))", ((), "set"), ((0,), "set"), ((0, 0), "read"))
        self.uses("(do 1 (set x (x 2)))", ((1,), "set"), ((1, 0, 0), "called"))

    def test_what_is_bound_between(self):
        self.uses("(fn (x) x)")
        self.uses("(fn (y x) (set x 1))")
        self.uses("(let ((x x) (y x)) x)", ((0,), "read"), ((1,), "read"))
        self.uses("(let ((y x)) (x 1))", ((0,), "read"), ((1, 0), "called"))
        self.uses("(rec ((x (fn () x))) x)")
        self.uses("(rec ((f (fn () x)) (g (fn (x) x))) (x 1))", ((0, 0), "read"), ((2, 0), "called"))
        for word in ("keep", "once", "take"):
            self.uses(f"({word} x (x 1))")
            self.uses(f"({word} k (x 1))", ((0, 0), "called"))
        self.uses("(do (fn (x) x) x)", ((1,), "read"))


class WholeTrees(unittest.TestCase):
    def test_has_take(self):
        for text in ("(take k 1)", "(fn () (take k 1))", "(let ((x (take k 1))) 2)", "(wind (fn () 1) 2 (fn () (take k 3)))",
                     "(rec ((f (fn () (mark (take k 1))))) 2)", "(+ 1 (do 2 (take k 3)))", "(keep k (take j 1))"):
            self.assertIs(has_take(read_program(text)), True, text)
        for text in ("1", "x", "(keep k (once j (mark (k j))))", "(wind 1 2 3)", "(fn (takes) takes)"):
            self.assertIs(has_take(read_program(text)), False, text)

    def test_winds_guarded(self):
        for text, guarded in (
            ("1", True), ("(f (take k 1))", True), ("(wind e 1 l)", True), ("(wind e x l)", True), ("(wind e (show (ask)) l)", True),
            ("(wind e (f) l)", False), ("(wind e (take k 1) l)", False), ("(wind e (wind e 1 l) l)", False),
            ("(wind e (mark (f)) l)", True), ("(wind e (mark (take k (k 1))) l)", True), ("(wind e (mark (wind e 1 l)) l)", True),
            ("(wind e (mark (wind e (f) l)) l)", False), ("(wind e (fn () (f)) l)", True), ("(wind e (do 1 (mark (f)) 2) l)", True),
            ("(wind e (do (mark 1) (f)) l)", False), ("(wind e (keep k 1) l)", True), ("(wind e (keep k (k 1)) l)", False),
            ("(wind e (once k (mark (k 1))) l)", True), ("(wind e ((fn () 1)) l)", False), ("(wind e (if 1 2 (f)) l)", False),
            ("(wind e (let ((x (f))) 1) l)", False), ("(wind e (let ((x 1)) (f)) l)", False), ("(wind e (set x (f)) l)", False),
            ("(wind e (rec ((f (fn () (f)))) 1) l)", True), ("(wind e (rec ((f (fn () (f)))) (f)) l)", False),
            ("(wind e (show (f)) l)", False), ("(wind e (+ 1 (f)) l)", False),
            ("(wind (f) 1 (f))", True), ("(wind (take k 1) 1 (wind e 2 l))", True), ("(wind (wind e (f) l) 1 l)", False),
            ("(wind e 1 (wind e (f) l))", False), ("(fn () (wind e (f) l))", False), ("(wind e (fn () (wind e (f) l)) l)", False),
            ("(do (wind e 1 l) (mark (wind e (f) l)))", False), ("(do (wind e 1 l) (f))", True),
        ):
            self.assertIs(winds_guarded(read_program(text)), guarded, text)


class Turns(unittest.TestCase):
    def turns(self, name, text, to, whole=PLAIN):
        whole = read_program(whole) if isinstance(whole, str) else whole
        tree = turn_here(read_program(text), name, whole)
        self.assertIsNotNone(tree, text)
        self.assertEqual(tree, read_program(to), text)

    def none(self, name, *texts, whole=PLAIN):
        whole = read_program(whole) if isinstance(whole, str) else whole
        for text in texts:
            self.assertIsNone(turn_here(read_program(text), name, whole), text)

    def test_names(self):
        self.assertEqual(TURN_NAMES, (
            "fold", "choose", "drop", "lone", "onecall", "unlet", "known", "letname", "unkept", "gokept", "gotaken",
            "marktake", "markvalue"))

    def test_bad_names(self):
        for name in ("", "Fold", "folds", "fold ", None, 1, ("fold",), ["fold"], "onceforkeep"):
            with self.assertRaises(BadTurnName) as caught:
                turn_here(read_program("(+ 1 2)"), name, PLAIN)
            self.assertEqual(caught.exception.name, name)

    def test_a_turn_looks_at_the_tree_itself_alone(self):
        for name in TURN_NAMES:
            self.none(name, "(f (+ 1 2) (if 1 2 3) (do 1 2) (do 1) (mark 1) (keep k 1))", "1", "x", "true", "(ask)", "(fn () (+ 1 2))")

    def test_fold_numbers(self):
        for text, to in (
            ("(+ 1 2)", "3"), ("(- 1 2)", "-1"), ("(* -3 4)", "-12"), ("(quot -7 2)", "-4"), ("(rem -7 2)", "1"), ("(quot 7 -2)", "-4"),
            ("(rem 7 -2)", "-1"), ("(quot -7 -2)", "3"), ("(rem -7 -2)", "-1"), ("(rem 7 2)", "1"), ("(< 1 2)", "true"), ("(< 2 2)", "false"), ("(= 2 2)", "true"),
            ("(= 2 1)", "false"), ("(+ 999999999 1)", "1000000000"), ("(- -999999999 1)", "-1000000000"), ("(* 100000 -10000)", "-1000000000"),
            ("(< -1000000000 1000000000)", "true"), ("(quot 0 5)", "0"), ("(+ 5 0)", "5"), ("(- 5 0)", "5"),
            ("(* 5 0)", "0"), ("(< 5 0)", "false"), ("(= 5 0)", "false"),
        ):
            self.turns("fold", text, to)
        self.none("fold", "(+ 1000000000 1)", "(- -1000000000 1)", "(* 100001 10000)", "(quot 1 0)", "(rem 1 0)", "(+ 1 true)",
                  "(+ none 1)", "(< false 1)", "(= none none)", "(= true true)", "(quot none 0)", "(+ x 1)", "(+ 1 (+ 1 1))", "(- 1 (ask))",
                  "(< 1 (do 2))")

    def test_fold_kinds(self):
        literals = ("0", "1", "true", "false", "none")
        for one in literals:
            for other in literals:
                self.turns("fold", f"(same? {one} {other})", "true" if one == other else "false")
            self.turns("fold", f"(pair? {one})", "false")
            self.turns("fold", f"(rest? {one})", "false")
            self.turns("fold", f"(fun? {one})", "false")
            self.turns("fold", f"(none? {one})", "true" if one == "none" else "false")
        self.none("fold", "(same? x x)", "(same? 1 x)", "(none? x)", "(pair? (pair 1 2))", "(fun? (fn () 1))", "(none? (none? 1))")

    def test_fold_never(self):
        self.none("fold", "(pair 1 2)", "(left 1)", "(right none)", "(left! 1 2)", "(right! 1 2)", "(show 1)", "(f 1 2)", "(do 1)")

    def test_choose(self):
        self.turns("choose", "(if false 1 (f))", "(f)")
        for test in ("true", "none", "0", "7"):
            self.turns("choose", f"(if {test} (f) 2)", "(f)")
        self.none("choose", "(if x 1 2)", "(if (< 1 2) 1 2)", "(if (do true) 1 2)", "(if (fn () 1) 1 2)")

    def test_drop(self):
        self.turns("drop", "(do 1 2)", "(do 2)")
        self.turns("drop", "(do (f) x (fn () 1) (g))", "(do (f) (fn () 1) (g))")
        self.turns("drop", "(do (pair x 1) (f))", "(do (f))")
        self.turns("drop", "1 2 3", "(do 2 3)")
        self.none("drop", "(do 1)", "(do x)", "(do (f) 1)", "(do (f) (g) x)", "(do (+ 1 2) 3)", "(do (left x) 3)", "(do (ask) 1)")

    def test_lone(self):
        self.turns("lone", "(do (f))", "(f)")
        self.turns("lone", "(do (do 1))", "(do 1)")
        self.none("lone", "(do 1 2)", "(show 1)", "(mark 1)")

    def test_onecall(self):
        self.turns("onecall", "((fn () (f)))", "(f)")
        self.turns("onecall", "((fn (a) (f a)) (g))", "(let ((a (g))) (f a))")
        self.turns("onecall", "((fn (a b) 1) x y)", "(let ((a x) (b y)) 1)")
        self.turns("onecall", "((fn (x) x) x)", "(let ((x x)) x)")
        self.none("onecall", "((fn (a) 1))", "((fn () 1) 2)", "((fn (a) 1) 2 3)", "(f 1)", "((do (fn () 1)))", "(fn () 1)")

    def test_unlet(self):
        self.turns("unlet", "(let ((x 1)) (f))", "(f)")
        self.turns("unlet", "(let ((x (pair y (fn () (x))))) 5)", "5")
        self.turns("unlet", "(let ((x x)) (fn (x) x))", "(fn (x) x)")
        self.none("unlet", "(let ((x 1)) x)", "(let ((x 1)) (set x 2))", "(let ((x 1)) (x 1))", "(let ((x (f))) 1)", "(let ((x (+ 1 2))) 1)",
                  "(let ((x 1) (y 2)) 3)", "(let ((x (left y))) 1)", "(rec ((x (fn () 1))) 2)")

    def test_known(self):
        self.turns("known", "(let ((x 5)) x)", "5")
        self.turns("known", "(let ((x none)) (f x (x 1) (x) (fn (y) x)))", "(f none (none 1) (none) (fn (y) none))")
        self.turns("known", "(let ((x true)) (let ((x x)) x))", "(let ((x true)) x)")
        self.turns("known", "(let ((x 1)) (do x (fn (x) x) (+ x x)))", "(do 1 (fn (x) x) (+ 1 1))")
        self.turns("known", "(let ((x 1)) (set y x))", "(set y 1)")
        self.none("known", "(let ((x 1)) 2)", "(let ((x 1)) (do x (set x 2)))", "(let ((x y)) x)", "(let ((x (fn () 1))) x)",
                  "(let ((x (pair 1 2))) x)", "(let ((x 1) (y 2)) x)", "(let ((x (f))) x)", "(let ((x 1)) (fn () (do x (set x 1))))")

    def test_letname(self):
        self.turns("letname", "(let ((x (f))) x)", "(f)")
        self.turns("letname", "(let ((x 1)) x)", "1")
        self.turns("letname", "(let ((x x)) x)", "x")
        self.none("letname", "(let ((x (f))) y)", "(let ((x (f))) (do x))", "(let ((x 1) (y 2)) x)", "(let ((x (f))) (x))")

    def test_unkept(self):
        self.turns("unkept", "(keep k (f))", "(f)")
        self.turns("unkept", "(keep k (keep k k))", "(keep k k)")
        self.none("unkept", "(keep k k)", "(keep k (k 1))", "(keep k (set k 1))", "(once k 1)", "(take k 1)", "(keep k (fn () k))")

    def test_gokept(self):
        self.turns("gokept", "(keep k (k (f)))", "(f)")
        self.turns("gokept", "(keep k (k (fn (k) k)))", "(fn (k) k)")
        self.turns("gokept", "(keep k (k 1))", "1", whole="(wind (fn () 1) (f) (fn () 1))")
        self.none("gokept", "(keep k (k k))", "(keep k (k (f (k 1))))", "(keep k (k))", "(keep k (k 1 2))", "(keep k (j 1))", "(keep k (do (k 1)))",
                  "(once k (k 1))", "(take k (k 1))", "(keep k (k (set k 1)))", "(keep k k)", "(keep k ((k 1) 2))")
        self.none("gokept", "(keep k (k 1))", whole="(fn () (take j 1))")

    def test_gotaken(self):
        self.turns("gotaken", "(take k (k (f)))", "(f)")
        self.turns("gotaken", "(take k (k 1))", "1", whole="(wind 1 (mark (f)) 2)")
        self.turns("gotaken", "(take k (k 1))", "1", whole="(take k (k 1))")
        self.none("gotaken", "(take k (k k))", "(take k (k (k 1)))", "(take k (k))", "(take k (k 1 2))", "(take k (j 1))", "(take k (do (k 1)))",
                  "(keep k (k 1))", "(once k (k 1))", "(take k 1)", "(take k k)")
        self.none("gotaken", "(take k (k 1))", whole="(wind 1 (f) 2)")
        self.none("gotaken", "(take k (k 1))", whole="(fn () (wind 1 (take k (k 1)) 2))")

    def test_marktake(self):
        self.turns("marktake", "(mark (take k (k 1)))", "(mark (let ((k (fn (x) x))) (k 1)))")
        self.turns("marktake", "(mark (take x (f (x (x 1)))))", "(mark (let ((x (fn (x) x))) (f (x (x 1)))))")
        self.turns("marktake", "(mark (take k 1))", "(mark (let ((k (fn (x) x))) 1))")
        self.turns("marktake", "(mark (take k (fn (k) k)))", "(mark (let ((k (fn (x) x))) (fn (k) k)))")
        self.none("marktake", "(mark (take k k))", "(mark (take k (k)))", "(mark (take k (k 1 2)))", "(mark (take k (do (k 1) (f k))))",
                  "(mark (take k (set k 1)))", "(mark (do (take k 1)))", "(take k (k 1))", "(mark (keep k (k 1)))", "(mark (once k (k 1)))",
                  "(mark (mark (take k 1)))")

    def test_markvalue(self):
        for text in ("1", "x", "none", "(fn () (f))", "(pair x 1)"):
            self.turns("markvalue", f"(mark {text})", text)
        self.none("markvalue", "(mark (f))", "(mark (show 1))", "(mark (ask))", "(mark (+ 1 2))", "(mark (mark 1))", "(do 1)", "(mark (do 1))")

    def test_what_is_given_is_a_tree_of_tuples(self):
        for name, text in (("onecall", "((fn (a b) 1) x y)"), ("drop", "(do 1 2 3)"), ("known", "(let ((x 1)) (f x x))")):
            tree = turn_here(read_program(text), name, PLAIN)
            waiting = [tree]
            while waiting:
                item = waiting.pop()
                self.assertIsInstance(item, (tuple, str, int))
                if isinstance(item, tuple):
                    waiting.extend(item)

    def test_turned_programs_show_the_same(self):
        counts = dict.fromkeys(TURN_NAMES, 0)
        for seed in range(400):
            tree = good_tree(seed, deep=5, gentle=seed % 3 > 0)
            if tree is None:
                continue
            before = walk_counted(tree, (1, 2), 60)
            for path in tree_paths(tree):
                for name in TURN_NAMES:
                    other = turn_here(tree_at(tree, path), name, tree)
                    if other is not None:
                        counts[name] += 1
                        after = walk_counted(tree_with(tree, path, other), (1, 2), 60)
                        told = (seed, path, name, program_text(tree))
                        self.assertLessEqual(after.calls, before.calls, told)
                        if before.end == ("fuel",):
                            self.assertEqual(after.shows[:len(before.shows)], before.shows, told)
                        else:
                            self.assertEqual((after.shows, after.end), (before.shows, before.end), told)
        for name in ("fold", "choose", "drop", "lone", "onecall", "unlet", "known", "letname", "unkept", "markvalue"):
            self.assertGreater(counts[name], 0, name)


if __name__ == "__main__":
    unittest.main()
