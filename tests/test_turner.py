"""turner.py: [6.7] to [6.11]."""

import random
import unittest

from makeprograms import good_tree
from writtenprograms import TEXTS

from goonagain.equals import TURN_NAMES, has_take, turn_here, winds_guarded
from goonagain.errors import BadText, BadTurnName, NoTurn
from goonagain.printer import program_text
from goonagain.reader import read_program
from goonagain.trees import tree_at, tree_paths, tree_size
from goonagain.turner import Turned, list_turns, turn_all, turned
from goonagain.walker import walk_counted

FUEL = ("fuel",)


def count_takes(tree):
    return len([path for path in tree_paths(tree) if tree_at(tree, path)[0] == "take"])


def plainly_turned(tree, names):
    """What turn_all does, as [6.8] says it."""
    turns = []
    while True:
        found = [turn for turn in list_turns(tree) if turn[1] in names]
        if not found:
            return Turned(tree, tuple(turns))
        turns.append(found[0])
        tree = turned(tree, *found[0])


class ListTurns(unittest.TestCase):
    def turns(self, text, *turns):
        self.assertEqual(list_turns(read_program(text)), turns, text)

    def test_each_turn_alone(self):
        for text, name in (
            ("(+ 1 2)", "fold"), ("(if 1 (ask) (ask))", "choose"), ("(do 1 (ask))", "drop"), ("(do (ask))", "lone"),
            ("((fn (x) (x)) (ask))", "onecall"), ("(let ((x 1)) (ask))", "unlet"), ("(let ((x 1)) (x))", "known"),
            ("(let ((x (ask))) x)", "letname"), ("(keep k (ask))", "unkept"), ("(keep k (k (ask)))", "gokept"),
            ("(take k (k (ask)))", "gotaken"), ("(mark (take k (ask)))", "marktake"), ("(mark 1)", "markvalue"),
        ):
            self.turns(text, ((), name))

    def test_none(self):
        self.turns("(ask)")
        self.turns("(let ((f (fn (a) a))) (rec ((g (fn () (f 1)))) (do (g) (once k (k 1)) (show (wind f (f 1) f)))))")

    def test_reading_order_over_trees_of_every_form(self):
        self.turns("(let ((a (do 1)) (b (fn (x) (mark 2)))) (a b))", ((0,), "lone"), ((1, 0), "markvalue"))
        self.turns("(rec ((f (fn () (do 1))) (g (fn () (+ 1 1)))) (mark 3))",
                   ((0, 0), "lone"), ((1, 0), "fold"), ((2,), "markvalue"))
        self.turns("(let ((x (ask))) (set x (mark 1)))", ((1, 0), "markvalue"))
        self.turns("(if (do 1) (do 2) (do 3))", ((0,), "lone"), ((1,), "lone"), ((2,), "lone"))
        self.turns("(do (ask) (mark 1) ((do 2) (do 3)))", ((1,), "markvalue"), ((2, 0), "lone"), ((2, 1), "lone"))
        self.turns("(once k (take j (do 1)))", ((0, 0), "lone"))
        self.turns("(wind (do 1) (do 2) (show (do 3)))", ((0,), "lone"), ((1,), "lone"), ((2, 0), "lone"))
        self.turns("(pair (do 1) (mark (do 2)))", ((0,), "lone"), ((1, 0), "lone"))

    def test_a_tree_ahead_of_its_parts(self):
        self.turns("(do (do (do (ask))))", ((), "lone"), ((0,), "lone"), ((0, 0), "lone"))

    def test_several_turns_of_one_path(self):
        self.turns("(let ((x 1)) x)", ((), "known"), ((), "letname"))
        self.turns("(mark (take k (k (ask))))", ((), "marktake"), ((0,), "gotaken"))

    def test_what_stands_elsewhere_counts(self):
        self.turns("(do (keep k (k (ask))) (ask))", ((0,), "gokept"))
        self.turns("(do (keep k (k (ask))) (take j (ask)))")
        self.turns("(do (take k (k (ask))) (wind (fn () 1) (show (ask)) (fn () 2)))", ((0,), "gotaken"))
        self.turns("(let ((f (ask))) (do (take k (k (ask))) (wind f (f) f)))")

    def test_tuples(self):
        turns = list_turns(read_program("(do (do 1))"))
        self.assertIsInstance(turns, tuple)
        self.assertTrue(all(isinstance(turn, tuple) and isinstance(turn[0], tuple) for turn in turns))

    def test_random_trees(self):
        many = 0
        for seed in range(60):
            tree = good_tree(seed, deep=5)
            if tree is None:
                continue
            listed = list_turns(tree)
            due = tuple((path, name) for path in tree_paths(tree) for name in TURN_NAMES
                        if turn_here(tree_at(tree, path), name, tree) is not None)
            self.assertEqual(listed, due)
            many += len(listed)
        self.assertGreater(many, 50)


class OneTurn(unittest.TestCase):
    def test_at_each_listed_turn(self):
        tree = read_program("(do (ask) (if true (+ 1 2) (do 3)) (let ((x 4)) (show x)))")
        found = {turn: program_text(turned(tree, *turn)) for turn in list_turns(tree)}
        self.assertEqual(found, {
            ((1,), "choose"): "(do (ask) (+ 1 2) (let ((x 4)) (show x)))",
            ((1, 1), "fold"): "(do (ask) (if true 3 (do 3)) (let ((x 4)) (show x)))",
            ((1, 2), "lone"): "(do (ask) (if true (+ 1 2) 3) (let ((x 4)) (show x)))",
            ((2,), "known"): "(do (ask) (if true (+ 1 2) (do 3)) (show 4))"})
        self.assertEqual(turned(tree, [1, 1], "fold"), turned(tree, (1, 1), "fold"))

    def test_at_the_whole_tree(self):
        self.assertEqual(turned(read_program("(+ 1 2)"), (), "fold"), ("number", 3))

    def test_an_unknown_name_comes_first(self):
        tree = read_program("(do 1)")
        for path in ((), (0,), (5,), (-1,)):
            for name in ("", "LONE", "lone ", "turn"):
                with self.assertRaises(BadTurnName) as caught:
                    turned(tree, path, name)
                self.assertEqual(caught.exception.name, name)

    def test_no_turn(self):
        tree = read_program("(do (do 1) (ask))")
        for path, name in (((), "lone"), ((2,), "lone"), ((-1,), "lone"), ((-2,), "lone"), ((0, -1), "lone"), ((0, 0), "lone"),
                           ((0, 0, 0), "lone"), ((1, 0), "fold"), ((0,), "drop"), ((1,), "lone"), ((0, 1), "fold")):
            with self.assertRaises(NoTurn) as caught:
                turned(tree, path, name)
            self.assertEqual((caught.exception.path, caught.exception.name), (path, name))
        with self.assertRaises(NoTurn) as caught:
            turned(tree, [2, 0], "lone")
        self.assertEqual(caught.exception.path, (2, 0))
        # A negative number leads nowhere, though the last part would turn.
        self.assertRaises(NoTurn, turned, read_program("(do (ask) (do 1))"), (-1,), "lone")


class AllTurns(unittest.TestCase):
    def becomes(self, text, other, *turns, **settings):
        found = turn_all(read_program(text), **settings)
        self.assertEqual((program_text(found.tree), found.turns), (other, turns), text)

    def test_example_6_11(self):
        self.becomes("(show (+ 1 (* 2 3)))", "(show 7)", ((0, 1), "fold"), ((0,), "fold"))
        self.assertEqual(list_turns(read_program("(show (+ 1 (* 2 3)))")), (((0, 1), "fold"),))
        self.assertEqual(program_text(turned(read_program("(mark (take k (k 1)))"), (), "marktake")),
                         "(mark (let ((k (fn (x) x))) (k 1)))")

    def test_all_names(self):
        self.becomes("(do 1 (mark 2) (if false 3 (do (let ((x 4)) (+ x x)))))", "8",
                     ((), "drop"), ((0,), "markvalue"), ((), "drop"), ((), "lone"), ((), "choose"), ((), "lone"), ((), "known"), ((), "fold"))

    def test_the_first_one_again_and_again(self):
        # Behind a turn an earlier one may apply: that of the form around, and that of a keep when the take is gone.
        self.becomes("(do (keep k (k (ask))) (if true 1 (take j (ask))))", "(do (ask) 1)", ((1,), "choose"), ((0,), "gokept"))
        self.becomes("(let ((f (ask))) (do (take k (k (ask))) (if false (wind f (f) f) 2)))",
                     "(let ((f (ask))) (do (ask) 2))", ((1, 1), "choose"), ((1, 0), "gotaken"))

    def test_a_few_names(self):
        text = "(do 1 (do (+ 1 2)) (mark 3))"
        self.becomes(text, "(do 1 (do 3) 3)", ((1, 0), "fold"), ((2,), "markvalue"), names=("markvalue", "fold"))
        self.becomes(text, "(do 1 (do 3) 3)", ((1, 0), "fold"), ((2,), "markvalue"), names=["fold", "markvalue", "fold"])
        self.becomes(text, "(do 1 (+ 1 2) (mark 3))", ((1,), "lone"), names=["lone", "lone"])
        self.becomes(text, text, names=["letname"])

    def test_no_names(self):
        for names in ((), []):
            self.becomes("(do (+ 1 2))", "(do (+ 1 2))", names=names)

    def test_the_default_is_all_names(self):
        tree = read_program("(do 1 (do (+ 1 2)) (mark 3))")
        self.assertEqual(turn_all(tree), turn_all(tree, TURN_NAMES))
        self.assertEqual(turn_all(tree), turn_all(tree, list(TURN_NAMES)[::-1]))

    def test_an_unknown_name(self):
        tree = read_program("(do (+ 1 2))")
        for names, bad in ((("fold", "FOLD", "x"), "FOLD"), (["y"], "y"), (("lone", "", "fold"), "")):
            with self.assertRaises(BadTurnName) as caught:
                turn_all(tree, names)
            self.assertEqual(caught.exception.name, bad)

    def test_the_names_are_not_changed(self):
        names = ["lone", "fold", "lone"]
        turn_all(read_program("(do (+ 1 2))"), names)
        self.assertEqual(names, ["lone", "fold", "lone"])

    def test_random_trees(self):
        chance = random.Random(6)
        many = 0
        for seed in range(150):
            tree = good_tree(seed, deep=5, gentle=seed % 2 == 0)
            if tree is None:
                continue
            for names in (TURN_NAMES, tuple(chance.sample(TURN_NAMES, 4))):
                found = turn_all(tree, names)
                self.assertEqual(found, plainly_turned(tree, names))
                self.assertLessEqual(len(found.turns), tree_size(tree) + 3 * count_takes(tree))
                at = tree
                for turn in found.turns:
                    other = turned(at, *turn)
                    self.assertTrue(count_takes(other) < count_takes(at)
                                    or count_takes(other) == count_takes(at) and tree_size(other) < tree_size(at))
                    at = other
                self.assertEqual(at, found.tree)
                many += len(found.turns)
        self.assertGreater(many, 300)

    def test_many_turns(self):
        # Each bracket but the outermost ones goes.
        inner = "(do (do (+ 1 1) (* 2 2) (if true 1 2) (let ((x 1)) x) 1 2 3) (ask))"
        text = "(do " + " ".join("(do " + " ".join([inner] * 4) + ")" for _ in range(9)) + ")"
        tree = read_program(text)
        found = turn_all(tree)
        self.assertEqual([turn for turn in list_turns(found.tree)], [])
        self.assertGreater(len(found.turns), 300)
        self.assertLessEqual(len(found.turns), tree_size(tree))

    def test_turned_keeps_what_it_is_given(self):
        found = Turned([1], None)
        self.assertEqual((found.tree, found.turns), ([1], None))
        self.assertTrue(Turned(1, 2) == Turned(1, 2))
        self.assertFalse(Turned(1, 2) == Turned(1, 3))
        self.assertFalse(Turned(1, 2) == Turned(3, 2))
        self.assertFalse(Turned(1, 2) == (1, 2))


class Runs(unittest.TestCase):
    """[6.9]: what is seen stays, with no more calls."""

    def same(self, tree, other, asks, fuel):
        one, two = walk_counted(tree, asks, fuel), walk_counted(other, asks, fuel)
        self.assertLessEqual(two.calls, one.calls)
        if one.end == FUEL:
            self.assertEqual(two.shows[:len(one.shows)], one.shows)
        else:
            self.assertEqual((two.shows, two.end), (one.shows, one.end))

    def check(self, tree, fuels):
        others = [turned(tree, path, name) for path, name in list_turns(tree)] + [turn_all(tree).tree]
        for other in others:
            for fuel in fuels:
                self.same(tree, other, (1, 2), fuel)
        return len(others) - 1

    def test_written_programs(self):
        for text in TEXTS:
            self.check(read_program(text), (0, 1, 2, 3, 5, 8, 13, 200))

    def test_written_turns(self):
        wind = "(wind (fn () (show 1)) {} (fn () (show 2)))"
        for text in (
            "(show (keep k (k (wind (fn () (show 1)) (ask) (fn () (show 2))))))",
            f"(show (mark {wind.format('(mark (take k (k (show 5))))')}))",
            f"(show (mark (+ 1 (mark (take k (k {wind.format('(show 3)')}))))))",
            f"(mark (take k (show (+ (k 1) {wind.format('(k (k 2))')}))))",
            "(do (mark (mark 1)) (show (mark (do (mark 2) 3))))",
            "((fn (a b) (do (show a) (show b) (+ a b))) (show 1) ((fn (x) (show x)) 2))",
            "(let ((x 5)) (do (show x) ((fn (y) (show (+ x y))) x) (x 1)))",
            "(let ((x (show 1))) x)", "(keep k (do (show 1) (left 2)))", "(do (pair 1 2) (fn (x) x) (show (do (same? 1 1))))",
        ):
            self.assertGreater(self.check(read_program(text), tuple(range(12)) + (100,)), 0, text)

    def test_random_programs(self):
        many = 0
        for seed in range(250):
            tree = good_tree(seed, deep=5, gentle=seed % 3 > 0)
            if tree is not None:
                many += self.check(tree, (2, 7, 40))
        self.assertGreater(many, 300)


class Large(unittest.TestCase):
    """[6.10]: what no text may have."""

    def test_deeper_than_a_text_may_be(self):
        # Each call becomes a let, which has a bracket more around its right side.
        text = "(ask)"
        for _ in range(14):
            text = f"((fn (a) (show a)) (+ 1 {text}))"
        tree = read_program(text)
        found = turn_all(tree, ["onecall"])
        self.assertRaises(BadText, read_program, program_text(found.tree))
        self.assertEqual(len(found.turns), 14)
        self.assertEqual(list_turns(found.tree), ())
        one, two = walk_counted(tree, (1,)), walk_counted(found.tree, (1,))
        self.assertEqual((one.shows, one.end), (two.shows, two.end))

    def test_more_funs_than_a_text_may_have(self):
        part = "(mark (take k (show (k 1))))"
        text = " ".join("(do " + " ".join([part] * 10) + ")" for _ in range(6))
        found = turn_all(read_program(text))
        self.assertEqual(found.turns, tuple(((row, at), "marktake") for row in range(6) for at in range(10)))
        # 60 takes became 60 funs; with the winds of a tree more than a text may have.
        bigger = ("do", (found.tree, found.tree))
        self.assertRaises(BadText, read_program, program_text(bigger))
        self.assertEqual(list_turns(bigger), ())
        self.assertEqual(turn_all(("do", (bigger,))), Turned(bigger, (((), "lone"),)))
        self.assertFalse(has_take(bigger))
        self.assertTrue(winds_guarded(bigger))
        self.assertEqual(walk_counted(bigger).shows, ("1",) * 120)


if __name__ == "__main__":
    unittest.main()
