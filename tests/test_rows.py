"""rows.py: [7.1] to [7.4], layouts and what they are made of."""

import unittest

from makeprograms import good_tree
from writtenprograms import TEXTS

from goonagain.program import Program
from goonagain.rows import Code, Layout, place_layouts


class Layouts(unittest.TestCase):
    """Layouts written out by hand: (size, kept, offsets, outer) by place."""

    def lie(self, text, *layouts):
        found = place_layouts(Program(text))
        self.assertIsInstance(found, tuple)
        self.assertEqual(tuple((one.size, one.kept, one.offsets, one.outer) for one in found), layouts, text)
        self.assertEqual(found, tuple(Layout(*one) for one in layouts))

    def test_no_places(self):
        self.lie("1")
        self.lie("(let ((x 1) (y 2)) (mark (keep k (once j (k j x y)))))")

    def test_one_behind_the_other(self):
        # The value of a place lies where its marker lay; nothing lies below it in the activation.
        self.lie("(+ (1) (2))", (0, 0, (), -1), (1, 0, (0,), -1))
        self.lie("(do (1) (2) (3))", (0, 0, (), -1), (1, 0, (0,), -1))
        self.lie("(do (1) (2) (3) (4))", (0, 0, (), -1), (1, 0, (0,), -1), (2, 0, (0, 1), -1))

    def test_within_one_another(self):
        # 1, the marker of place 0, 2, the marker of place 1, ..
        self.lie("(+ 1 (+ 2 (3)))", (1, 0, (0,), -1), (3, 2, (0, 2), 0))
        self.lie("(+ 1 (+ 2 (+ 3 (4))))", (1, 0, (0,), -1), (3, 2, (0, 2), 0), (5, 4, (0, 2, 4), 1))

    def test_behind_a_place_within_another(self):
        # Behind place 1, whose value lies at 2, place 2 waits; its marker lies above that of place 0, too.
        self.lie("(show (+ (1) (2)))", (0, 0, (), -1), (1, 1, (), 0), (2, 1, (1,), 0))
        self.lie("(+ (show (+ (1) (2))) (3))", (0, 0, (), -1), (1, 1, (), 0), (2, 2, (), 1), (3, 2, (2,), 1), (1, 0, (0,), -1))

    def test_funs(self):
        # x, y, then the captured a; then what is bound.
        self.lie("(let ((a 1)) (fn (x y) (+ (x) (show (y a)))))", (3, 0, (0, 1, 2), -1), (4, 0, (0, 1, 2, 3), -1),
                 (5, 5, (0, 1, 2, 3), 1))
        self.lie("(let ((a (1))) (fn (x) (let ((b a)) (show (b)))))", (0, 0, (), -1), (3, 0, (0, 1, 2), -1))

    def test_keep(self):
        self.lie("(+ 1 (keep k (+ 2 (k 5))))", (1, 0, (0,), -1), (4, 2, (0, 2, 3), 0))
        self.lie("(keep k (show (k 1)))", (1, 0, (0,), -1))

    def test_once_begins_a_new_activation(self):
        self.lie("(+ 1 (once k (+ 2 (k 5))))", (1, 0, (0,), -1), (3, 0, (0, 1, 2), -1))
        self.lie("(+ 1 (once k (+ 2 (+ 3 (k 5)))))", (1, 0, (0,), -1), (3, 0, (0, 1, 2), -1), (5, 4, (0, 1, 2, 4), 1))
        self.lie("(once k (once j (show (k 1))))", (2, 0, (0, 1), -1))

    def test_mark_begins_a_new_activation(self):
        self.lie("(+ 1 (mark (+ 2 (3))))", (1, 0, (0,), -1), (2, 0, (0, 1), -1))
        self.lie("(+ 1 (+ 2 (mark (+ 3 (+ 4 (5))))))", (1, 0, (0,), -1), (3, 2, (0, 2), 0), (3, 0, (0, 1, 2), -1),
                 (5, 4, (0, 1, 2, 4), 2))
        # Behind the place at which the mark stands, the first activation goes on.
        self.lie("(+ (mark (show (1))) (2))", (0, 0, (), -1), (0, 0, (), -1), (1, 0, (0,), -1))

    def test_if(self):
        self.lie("(if (1) (show (2)) (+ 3 (4)))", (0, 0, (), -1), (1, 0, (0,), -1), (2, 0, (0, 1), -1))
        self.lie("(show (if true (show (2)) (+ 3 (4))))", (0, 0, (), -1), (1, 1, (), 0), (2, 1, (1,), 0))

    def test_take(self):
        self.lie("(let ((x 9)) (show (take k (+ x (k 1)))))", (1, 0, (0,), -1), (3, 0, (0, 1, 2), -1))

    def test_wind(self):
        self.lie("(let ((x 9)) (+ x (wind (fn () 1) (show (x)) (fn () 2))))", (2, 0, (0, 1), -1), (1, 0, (0,), -1))

    def test_rec(self):
        self.lie("(let ((a 1)) (+ a (rec ((f (fn () g)) (g (fn (b) (f a g b)))) (show (f g)))))",
                 (2, 0, (0, 1), -1), (5, 3, (0, 1, 3, 4), 0))

    def test_each_lies_as_its_place_is_wide(self):
        for seed in range(80):
            tree = good_tree(seed, deep=6)
            if tree is None:
                continue
            program = Program.of_tree(tree)
            layouts = place_layouts(program)
            self.assertEqual(len(layouts), len(program.places))
            for place, layout in enumerate(layouts):
                self.assertEqual(len(layout.offsets), program.places[place][1])
                self.assertEqual(sorted(set(layout.offsets)), list(layout.offsets))
                self.assertLess(layout.outer, place)
                if layout.outer == -1:
                    self.assertEqual((layout.kept, layout.offsets), (0, tuple(range(layout.size))))
                else:
                    outer = layouts[layout.outer]
                    self.assertEqual(layout.kept, outer.size + 1)
                    self.assertEqual(layout.offsets[:len(outer.offsets)], outer.offsets)
                    self.assertEqual(layout.offsets[len(outer.offsets):], tuple(range(layout.kept, layout.size)))

    def test_hundreds_of_places(self):
        part = "(do " + " ".join(["(1)"] * 10) + ")"
        part = "(do " + " ".join([part] * 10) + ")"
        program = Program(" ".join([part] * 6))
        self.assertGreater(len(place_layouts(program)), 590)

    def test_the_program_is_not_changed(self):
        for text in TEXTS:
            program = Program(text)
            place_layouts(program)
            other = Program(text)
            self.assertEqual((program.bodies, program.places), (other.bodies, other.places))


class Kept(unittest.TestCase):
    def check(self, kind, parts, names):
        one = kind(*parts)
        for name, part in zip(names, parts):
            self.assertIs(getattr(one, name), part)
        self.assertTrue(one == kind(*parts))
        for at in range(len(parts)):
            other = list(parts)
            other[at] = "else"
            self.assertFalse(one == kind(*other))
            self.assertTrue(one != kind(*other))
        self.assertFalse(one == tuple(parts))

    def test_layout(self):
        self.check(Layout, (3, 2, (0, 2), 0), ("size", "kept", "offsets", "outer"))
        self.check(Layout, ("a", [1], None, {}), ("size", "kept", "offsets", "outer"))

    def test_code(self):
        self.check(Code, ((("value", 1), ("give", 0)), (), (0,)), ("rows", "places", "bodies"))
        self.check(Code, ([1], None, -1), ("rows", "places", "bodies"))


if __name__ == "__main__":
    unittest.main()
