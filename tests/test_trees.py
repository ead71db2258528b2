"""trees.py: [1.8]."""

import unittest

from goonagain.reader import read_program
from goonagain.trees import parts_of, tree_at, tree_paths, tree_size, tree_with, with_parts

ONE, TWO, THREE = ("number", 1), ("number", 2), ("number", 3)
F = ("name", "f")

PARTS = (
    ("1", ()), ("x", ()), ("true", ()), ("false", ()), ("none", ()), ("(ask)", ()),
    ("(fn (a b) 1)", (ONE,)), ("(fn () 1)", (ONE,)), ("(let ((x 1) (y 2)) 3)", (ONE, TWO, THREE)),
    ("(rec ((f (fn () 1)) (g (fn () 2))) 3)", (("fn", (), ONE), ("fn", (), TWO), THREE)),
    ("(set x 1)", (ONE,)), ("(if 1 2 3)", (ONE, TWO, THREE)), ("(do 1)", (ONE,)), ("(do 1 2 3)", (ONE, TWO, THREE)),
    ("(f)", (F,)), ("(f 1 2)", (F, ONE, TWO)), ("(keep k 1)", (ONE,)), ("(once k 1)", (ONE,)), ("(take k 1)", (ONE,)),
    ("(mark 1)", (ONE,)), ("(wind 1 2 3)", (ONE, TWO, THREE)), ("(show 1)", (ONE,)), ("(+ 1 2)", (ONE, TWO)),
    ("(left 1)", (ONE,)),
)


class Parts(unittest.TestCase):
    def test_parts(self):
        for text, parts in PARTS:
            self.assertEqual(parts_of(read_program(text)), parts, text)

    def test_parts_put_back(self):
        for text, parts in PARTS:
            tree = read_program(text)
            self.assertEqual(with_parts(tree, parts), tree, text)
            self.assertEqual(with_parts(tree, list(parts)), tree, text)

    def test_other_parts(self):
        other = (("name", "p"), ("name", "q"), ("name", "r"))
        for text, parts in PARTS:
            tree = with_parts(read_program(text), list(other[:len(parts)]))
            self.assertEqual(parts_of(tree), other[:len(parts)], text)
            self.assertEqual(tree[0], read_program(text)[0])
        self.assertEqual(with_parts(("let", (("x", ONE), ("y", TWO)), THREE), other),
                         ("let", (("x", other[0]), ("y", other[1])), other[2]))
        self.assertEqual(with_parts(("call", F, (ONE,)), other[:2]), ("call", other[0], (other[1],)))
        self.assertEqual(with_parts(("op", "+", (ONE, TWO)), other[:2]), ("op", "+", other[:2]))
        self.assertEqual(with_parts(("fn", ("a",), ONE), [TWO]), ("fn", ("a",), TWO))
        self.assertEqual(with_parts(("do", (ONE,)), [TWO]), ("do", (TWO,)))
        self.assertEqual(with_parts(("wind", ONE, TWO, THREE), [THREE, TWO, ONE]), ("wind", THREE, TWO, ONE))


class Paths(unittest.TestCase):
    TREE = read_program("(let ((x (f 1 2)) (y 3)) (if x (fn (a) (+ a 4)) (wind 5 6 7)))")

    def test_paths_in_reading_order(self):
        self.assertEqual(tree_paths(self.TREE), (
            (), (0,), (0, 0), (0, 1), (0, 2), (1,), (2,), (2, 0), (2, 1), (2, 1, 0), (2, 1, 0, 0), (2, 1, 0, 1), (2, 2),
            (2, 2, 0), (2, 2, 1), (2, 2, 2)))
        self.assertEqual(tree_paths(ONE), ((),))

    def test_size(self):
        self.assertEqual(tree_size(self.TREE), 16)
        self.assertEqual(tree_size(ONE), 1)
        for text, parts in PARTS:
            tree = read_program(text)
            self.assertEqual(tree_size(tree), len(tree_paths(tree)))
            self.assertEqual(tree_size(tree), 1 + sum(tree_size(part) for part in parts))

    def test_the_subtree_at_a_path(self):
        self.assertEqual(tree_at(self.TREE, ()), self.TREE)
        self.assertEqual(tree_at(self.TREE, (0, 2)), TWO)
        self.assertEqual(tree_at(self.TREE, [2, 1, 0, 1]), ("number", 4))
        self.assertEqual(tree_at(self.TREE, (2, 2, 1)), ("number", 6))

    def test_paths_that_lead_nowhere(self):
        for path in ((3,), (-1,), (0, 3), (0, -1), (1, 0), (2, 1, 0, 1, 0), (-3, 0), (10 ** 30,), (0, 0, 0), (-2 ** 70,)):
            self.assertIsNone(tree_at(self.TREE, path), path)
        self.assertIsNone(tree_at(ONE, (0,)))

    def test_another_tree_at_a_path(self):
        new = ("name", "new")
        self.assertEqual(tree_with(self.TREE, (), new), new)
        for path in tree_paths(self.TREE):
            changed = tree_with(self.TREE, path, new)
            self.assertEqual(tree_at(changed, path), new)
            self.assertEqual(tree_with(changed, path, tree_at(self.TREE, path)), self.TREE)
        self.assertEqual(tree_with(self.TREE, [2, 2, 0], new),
                         read_program("(let ((x (f 1 2)) (y 3)) (if x (fn (a) (+ a 4)) (wind new 6 7)))"))

    def test_nothing_passed_in_is_changed(self):
        path, parts = [2, 1], [ONE, TWO, THREE]
        tree_with(self.TREE, path, ONE)
        tree_at(self.TREE, path)
        made = with_parts(("do", (ONE, TWO, THREE)), parts)
        parts.append(ONE)
        self.assertEqual((path, len(made[1])), ([2, 1], 3))
        self.assertIsInstance(made[1], tuple)


if __name__ == "__main__":
    unittest.main()
