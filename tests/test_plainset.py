"""plainset.py: [2.3]."""

import unittest

from makeprograms import good_tree

from goonagain.plainset import without_set
from goonagain.printer import program_text
from goonagain.reader import read_program
from goonagain.scopes import free_names
from goonagain.trees import parts_of
from goonagain.walker import walk_counted


class WithoutSet(unittest.TestCase):
    def gives(self, text, plain):
        self.assertEqual(program_text(without_set(read_program(text))), plain)
        self.assertEqual(program_text(without_set(read_program(plain))), plain)

    def test_nothing_set(self):
        for text in ("1", "(fn (a) (a 1))", "(let ((x 1) (y 2)) (x y))", "(rec ((f (fn (a) (f a)))) (do (f 1)))",
                     "(keep k (once j (take i (k j i))))", "(mark (wind (fn () 1) (show (ask)) (fn () 2)))",
                     "(if (left (pair 1 2)) true none)"):
            self.gives(text, text)

    def test_fn(self):
        self.gives("(fn (a) (set a 1))", "(fn (a) (let ((a (pair a none))) (left! a 1)))")
        self.gives("(fn (a b c) (do (set c b) (set a c)))",
                   "(fn (a b c) (let ((a (pair a none)) (c (pair c none))) (do (left! c b) (left! a (left c)))))")

    def test_let(self):
        self.gives("(let ((x 1)) (set x (+ x 1)))", "(let ((x 1)) (let ((x (pair x none))) (left! x (+ (left x) 1))))")
        self.gives("(let ((y 1) (x 2) (z 3)) (do (set z x) (set y z)))",
                   "(let ((y 1) (x 2) (z 3)) (let ((y (pair y none)) (z (pair z none))) (do (left! z x) (left! y (left z)))))")

    def test_keep_once_and_take(self):
        for word in ("keep", "once", "take"):
            self.gives(f"({word} k (do (set k 1) k))",
                       f"({word} k (let ((k (pair k none))) (do (left! k 1) (left k))))")

    def test_rec(self):
        self.gives("(rec ((f (fn () (g))) (g (fn () (f)))) (do (set f 1) (f)))",
                   "(let ((f (pair none none))) (rec ((g (fn () ((left f))))) "
                   "(do (left! f (fn () (g))) (do (left! f 1) ((left f))))))")
        self.gives("(rec ((f (fn () (set f f)))) 1)",
                   "(let ((f (pair none none))) (do (left! f (fn () (left! f (left f)))) 1))")
        self.gives("(rec ((a (fn () (set c b))) (b (fn () (set a c))) (c (fn () b))) (a))",
                   "(let ((a (pair none none)) (c (pair none none))) (rec ((b (fn () (left! a (left c))))) "
                   "(do (left! a (fn () (left! c b))) (left! c (fn () b)) ((left a)))))")
        self.gives("(rec ((a (fn () 1)) (b (fn () 1))) (do (set b 1) (set a 2)))",
                   "(let ((a (pair none none)) (b (pair none none))) "
                   "(do (left! a (fn () 1)) (left! b (fn () 1)) (do (left! b 1) (left! a 2))))")

    def test_names_that_hide_one_another(self):
        self.gives("(fn (a) (fn (a) (set a 1)))", "(fn (a) (fn (a) (let ((a (pair a none))) (left! a 1))))")
        self.gives("(fn (a) (do (set a 1) (fn (a) a) a))",
                   "(fn (a) (let ((a (pair a none))) (do (left! a 1) (fn (a) a) (left a))))")
        self.gives("(let ((x 1)) (let ((x (set x 2))) x))",
                   "(let ((x 1)) (let ((x (pair x none))) (let ((x (left! x 2))) x)))")
        self.gives("(let ((x 1)) (let ((x x)) (set x 2)))",
                   "(let ((x 1)) (let ((x x)) (let ((x (pair x none))) (left! x 2))))")
        self.gives("(keep k (rec ((k (fn () (set k 1)))) k))",
                   "(keep k (let ((k (pair none none))) (do (left! k (fn () (left! k 1))) (left k))))")
        self.gives("(keep k (do (take k (set k 1)) k))", "(keep k (do (take k (let ((k (pair k none))) (left! k 1))) k))")
        self.gives("(let ((x 1)) (do (set x 1) (rec ((f (fn (x) x))) (f x))))",
                   "(let ((x 1)) (let ((x (pair x none))) (do (left! x 1) (rec ((f (fn (x) x))) (f (left x))))))")

    def test_set_within_set(self):
        self.gives("(let ((x 1) (y 2)) (set x (set y x)))",
                   "(let ((x 1) (y 2)) (let ((x (pair x none)) (y (pair y none))) (left! x (left! y (left x)))))")

    def test_random_trees(self):
        def words(tree):
            found = {tree[0]}
            for part in parts_of(tree):
                found |= words(part)
            return found
        seen = 0
        for seed in range(200):
            tree = good_tree(seed, deep=5)
            if tree is not None:
                plain = without_set(tree)
                self.assertNotIn("set", words(plain))
                self.assertEqual(free_names(plain), ())
                self.assertEqual(without_set(plain), plain)
                self.assertEqual(walk_counted(plain, (1, 2), 60), walk_counted(tree, (1, 2), 60))
                seen += "set" in words(tree)
                if "set" not in words(tree):
                    self.assertEqual(plain, tree)
        self.assertGreater(seen, 50)


if __name__ == "__main__":
    unittest.main()
