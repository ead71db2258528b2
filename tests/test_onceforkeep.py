"""onceforkeep.py: [10.8] to [10.10]."""

import unittest

from makeprograms import good_tree
from writtenprograms import TEXTS

from goonagain.errors import NoKeep
from goonagain.onceforkeep import keep_paths, with_once
from goonagain.printer import program_text
from goonagain.reader import read_program
from goonagain.trees import tree_at, tree_paths
from goonagain.walker import walk_counted

END, ONCE = ("end",), ("fault", "once")


class Paths(unittest.TestCase):
    def test_example_10_10(self):
        tree = read_program("(keep a (keep b 1))")
        self.assertEqual(keep_paths(tree), ((), (0,)))
        self.assertEqual(with_once(tree, [(0,)]), read_program("(keep a (once b 1))"))

    def test_none(self):
        for text in ("1", "(once k (take j (mark (k j))))", "(fn () 1)"):
            self.assertEqual(keep_paths(read_program(text)), ())

    def test_reading_order_over_every_form(self):
        tree = read_program("""(let ((a (keep k k)) (b (fn () (keep k k))))
            (rec ((f (fn (x) (keep k k)))) (do (set a (keep k k)) (if (keep k k) (keep k (keep j j)) (take t (keep k k)))
            (f (once o (keep k k))) (mark (keep k k)) (wind (keep k k) (keep k k) (keep k k)) (show (keep k k)) (pair 1 (keep k k)))))""")
        paths = keep_paths(tree)
        self.assertEqual(paths, tuple(path for path in tree_paths(tree) if tree_at(tree, path)[0] == "keep"))
        self.assertEqual(paths, ((0,), (1, 0), (2, 0, 0), (2, 1, 0, 0), (2, 1, 1, 0), (2, 1, 1, 1), (2, 1, 1, 1, 0), (2, 1, 1, 2, 0),
                                 (2, 1, 2, 1, 0), (2, 1, 3, 0), (2, 1, 4, 0), (2, 1, 4, 1), (2, 1, 4, 2), (2, 1, 5, 0), (2, 1, 6, 1)))
        self.assertEqual(keep_paths(with_once(tree, paths)), ())
        self.assertEqual(program_text(with_once(tree, paths)), program_text(tree).replace("(keep ", "(once "))


class WithOnce(unittest.TestCase):
    TREE = read_program("(keep a (do (keep b (keep c 1)) (once d 2) (keep e (a 3))))")

    def becomes(self, paths, text):
        self.assertEqual(program_text(with_once(self.TREE, paths)), text)

    def test_some_paths(self):
        self.becomes((), "(keep a (do (keep b (keep c 1)) (once d 2) (keep e (a 3))))")
        self.becomes(((),), "(once a (do (keep b (keep c 1)) (once d 2) (keep e (a 3))))")
        self.becomes(((0, 2), (0, 0)), "(keep a (do (once b (keep c 1)) (once d 2) (once e (a 3))))")
        # One within another, in either order.
        for paths in (((0, 0), (0, 0, 0), ()), ((), (0, 0, 0), (0, 0)), [(0, 0, 0), (), (0, 0)]):
            self.becomes(paths, "(once a (do (once b (once c 1)) (once d 2) (keep e (a 3))))")

    def test_all_paths(self):
        self.becomes(keep_paths(self.TREE), "(once a (do (once b (once c 1)) (once d 2) (once e (a 3))))")

    def test_a_path_twice(self):
        for paths in (((0, 0), (0, 0)), [[0, 0], (0, 0), [0, 0]]):
            self.becomes(paths, "(keep a (do (once b (keep c 1)) (once d 2) (keep e (a 3))))")

    def test_paths_as_lists(self):
        paths = [[], [0, 2]]
        self.becomes(paths, "(once a (do (keep b (keep c 1)) (once d 2) (once e (a 3))))")
        self.assertEqual(paths, [[], [0, 2]])

    def test_no_keep(self):
        for paths, bad in (
            (((0,),), (0,)), (((0, 1),), (0, 1)), (((), (0, 1), (9,)), (0, 1)), (((1,),), (1,)), (((-1,),), (-1,)),
            (((0, -1),), (0, -1)), (((0, 0, 0, 0),), (0, 0, 0, 0)), (((0, 0, 0, 0, 0),), (0, 0, 0, 0, 0)),
            ([[0, 0], [0, 3]], (0, 3)), (((0, 2), (0, 2), (0, 2, 0)), (0, 2, 0)), ([[5]], (5,)),
        ):
            with self.assertRaises(NoKeep) as caught:
                with_once(self.TREE, paths)
            self.assertEqual(caught.exception.path, bad)
            self.assertIsInstance(caught.exception.path, tuple)
        # A once form is none, though with_once could have made it.
        self.assertRaises(NoKeep, with_once, with_once(self.TREE, [()]), [()])

    def test_the_tree_is_not_changed(self):
        before = program_text(self.TREE)
        with_once(self.TREE, keep_paths(self.TREE))
        self.assertEqual(program_text(self.TREE), before)


class Runs(unittest.TestCase):
    """[10.9]."""

    def runs(self, text, paths, shows, end, fuel=2000):
        tree = read_program(text)
        one, two = walk_counted(tree, (), fuel), walk_counted(with_once(tree, paths), (), fuel)
        self.assertEqual((two.shows, two.end), (shows, end), text)
        if end != ONCE:
            self.assertEqual((one.shows, one.end, one.calls), (two.shows, two.end, two.calls))
        else:
            self.assertEqual(one.shows[:len(two.shows)], two.shows)
            self.assertLessEqual(two.calls, one.calls)

    def test_left_by_a_plain_return_once(self):
        self.runs("(show (+ 1 (keep k 5)))", [(0, 1)], ("6",), END)

    def test_gone_on_with_once(self):
        self.runs("(show (+ 1 (keep k (do (k 5) 6))))", [(0, 1)], ("6",), END)
        self.runs("(show (keep k (wind (fn () (show 1)) (k 5) (fn () (show 2)))))", [(0,)], ("1", "2", "5"), END)

    def test_the_second_pass(self):
        # A plain return, then a going-on: the call of the rest is the fault.
        self.runs("(let ((r none)) (do (show (keep k (do (set r k) 0))) (r 1)))", [(1, 0, 0)], ("0",), ONCE)
        # A going-on, then another one.
        self.runs("(let ((r none)) (do (show (keep k (do (set r k) (k 0)))) (r 1)))", [(1, 0, 0)], ("0",), ONCE)
        # Two returns from within: the place is passed for the second time by a value that another rest gives.
        text = "(let ((j none) (n 0)) (do (show (keep k (keep i (do (set j i) 1)))) (set n (+ n 1)) (if (< n 3) (j 2) none)))"
        self.runs(text, [(2, 0, 0)], ("1",), ONCE)
        self.runs(text, [(2, 0, 0, 0)], ("1",), ONCE)

    def test_beyond_the_second_pass(self):
        # Another rest may be gone on with as often as ever.
        text = "(let ((r none) (n 0)) (do (show (keep j (keep k (do (set r j) n)))) (set n (+ n 1)) (if (< n 3) (r n) none)))"
        self.assertEqual(keep_paths(read_program(text)), ((2, 0, 0), (2, 0, 0, 0)))
        self.runs(text, [(2, 0, 0, 0)], ("0", "1", "2"), END)
        self.runs(text, [(2, 0, 0)], ("0",), ONCE)

    def test_each_rest_has_a_place_of_its_own(self):
        self.runs("(rec ((f (fn (n) (if (< n 1) 0 (+ (keep k (k n)) (f (- n 1))))))) (show (f 5)))", [(0, 0, 2, 0)], ("15",), END)

    def test_another_count_of_values_is_no_going_on(self):
        self.runs("(let ((r none)) (do (keep k (set r k)) (show 1) (r)))", [(1, 0)], ("1",), ("fault", "arity"))

    def test_with_little_fuel(self):
        text = "(let ((r none)) (do (show (keep k (do (set r k) 0))) ((fn () 1)) (show 3) (r 1)))"
        self.runs(text, [(1, 0, 0)], ("0",), ("fuel",), 0)
        self.runs(text, [(1, 0, 0)], ("0", "3"), ("fuel",), 1)
        self.runs(text, [(1, 0, 0)], ("0", "3"), ONCE, 2)

    def test_many_programs(self):
        ends = {}
        trees = [read_program(text) for text in TEXTS] + [good_tree(seed, deep=5, gentle=seed % 3 > 0) for seed in range(300)]
        for tree in trees:
            paths = keep_paths(tree) if tree is not None else ()
            for chosen in (paths, paths[:1], paths[1::2]):
                if not chosen:
                    continue
                one, two = walk_counted(tree, (1, 2), 60), walk_counted(with_once(tree, chosen), (1, 2), 60)
                same = (one.shows, one.end, one.calls) == (two.shows, two.end, two.calls)
                ends[(same, two.end)] = True
                if not same:
                    self.assertEqual((two.end, two.shows), (ONCE, one.shows[:len(two.shows)]))
                    self.assertLessEqual(two.calls, one.calls)
        self.assertIn((False, ONCE), ends)
        self.assertIn((True, END), ends)


if __name__ == "__main__":
    unittest.main()
