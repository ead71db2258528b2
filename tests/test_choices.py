"""choices.py: [15.3] to [15.5]."""

import unittest

from makeplans import good_plan, shows_on_all

from goonagain.choices import choices_shown, choices_text
from goonagain.errors import BadPlan
from goonagain.reader import read_program

WHOLE = ("(let ((todo none)) (rec ((later (fn (k f) (set todo (pair (pair k f) todo)))) (fail (fn () (let ((c (left todo)))"
         " (do (set todo (right todo)) ((left c) (right c))))))) (keep end (do (later end none) (show P) (fail)))))")
ONE, TWO, THREE = ("is", 1), ("is", -2), ("is", 30)


def answers(part):
    """The answers as [15.4] says them, with their places."""
    if part[0] == "is":
        return [part[1]]
    if part[0] == "sum":
        return [a + b for a in answers(part[1]) for b in answers(part[2])]
    if part[0] == "under":
        return [a for a in answers(part[1]) if a < part[2]]
    return sum((answers(one) for one in part[1:]), [])


class Texts(unittest.TestCase):
    def texts(self, plan, pieces, whole):
        self.assertEqual(choices_text(plan), "(mark (show " + pieces + "))")
        self.assertEqual(choices_text(plan, whole=False), choices_text(plan))
        self.assertEqual(choices_text(plan, whole=True), WHOLE.replace("P", whole))

    def test_each_part(self):
        self.texts(("is", 5), "5", "5")
        self.texts(("is", -99), "-99", "-99")
        self.texts(("is", 0), "0", "0")
        self.texts(("sum", ONE, TWO), "(+ 1 -2)", "(+ 1 -2)")
        self.texts(("pick", ONE), "((take k (do (k (fn () 1)))))", "((keep k (do (fn () 1))))")
        self.texts(("pick", ONE, TWO), "((take k (do (k (fn () 1)) (k (fn () -2)))))", "((keep k (do (later k (fn () -2)) (fn () 1))))")
        self.texts(("pick", ONE, TWO, THREE, ("is", 4)), "((take k (do (k (fn () 1)) (k (fn () -2)) (k (fn () 30)) (k (fn () 4)))))",
                   "((keep k (do (later k (fn () 4)) (later k (fn () 30)) (later k (fn () -2)) (fn () 1))))")
        self.texts(("under", THREE, -7), "(let ((v 30)) (if (< v -7) v (take k none)))", "(let ((v 30)) (if (< v -7) v (fail)))")

    def test_parts_within(self):
        self.texts(("under", ("sum", ("pick", ONE, TWO), ("under", THREE, 99)), 5),
                   "(let ((v (+ ((take k (do (k (fn () 1)) (k (fn () -2))))) (let ((v 30)) (if (< v 99) v (take k none)))))) (if (< v 5) v (take k none)))",
                   "(let ((v (+ ((keep k (do (later k (fn () -2)) (fn () 1)))) (let ((v 30)) (if (< v 99) v (fail)))))) (if (< v 5) v (fail)))")
        self.texts(("pick", ("pick", ONE, TWO), ("sum", ONE, TWO)),
                   "((take k (do (k (fn () ((take k (do (k (fn () 1)) (k (fn () -2))))))) (k (fn () (+ 1 -2))))))",
                   "((keep k (do (later k (fn () (+ 1 -2))) (fn () ((keep k (do (later k (fn () -2)) (fn () 1))))))))")

    def test_whole_by_keyword_alone(self):
        with self.assertRaises(TypeError):
            choices_text(ONE, True)


class Shown(unittest.TestCase):
    def shown(self, plan, *due):
        self.assertEqual(choices_shown(plan), tuple(str(number) for number in due))
        for whole in (False, True):
            self.assertTrue(shows_on_all(self, choices_text(plan, whole=whole), choices_shown(plan)))

    def test_each_part(self):
        self.shown(("is", -5), -5)
        self.shown(("pick", THREE, ONE, TWO), 30, 1, -2)
        self.shown(("sum", ("pick", ONE, TWO), ("pick", ("is", 10), ("is", 20), ("is", 10))), 11, 21, 11, 8, 18, 8)
        self.shown(("under", ("pick", ("is", 3), ("is", 4), ("is", 5), ("is", -6)), 4), 3, -6)
        self.shown(("under", ONE, 1))
        self.shown(("sum", ("under", ONE, 0), ("pick", ONE, TWO)))
        self.shown(("pick", ("under", ONE, 0), TWO, ("under", TWO, 0), ("under", THREE, 0)), -2, -2)

    def test_within_one_another(self):
        self.shown(("sum", ("pick", ONE, ("sum", ("pick", ONE, TWO), THREE)), ("under", ("pick", ONE, THREE, TWO), 2)), 2, -1, 32, 29, 29, 26)
        self.shown(("pick", ("pick", ("pick", ("pick", ONE))), ONE), 1, 1)

    def test_random_plans(self):
        ended = 0
        for seed in range(90):
            plan = good_plan("choices", seed)
            self.assertEqual(choices_shown(plan), tuple(str(number) for number in answers(plan)))
            for whole in (False, True):
                ended += shows_on_all(self, choices_text(plan, whole=whole), choices_shown(plan))
        self.assertGreater(ended, 160)

    def test_as_many_parts_as_there_may_be(self):
        four = ("pick", ONE, TWO, THREE, ("is", 4))
        plan = ("sum", ("sum", four, four), ("under", ("sum", four, ("pick", ONE, TWO, ONE)), 99))
        self.assertEqual(len(choices_shown(plan)), 192)
        for whole in (False, True):
            self.assertTrue(shows_on_all(self, choices_text(plan, whole=whole), choices_shown(plan)))
            read_program(choices_text(plan, whole=whole))

    def test_bad_plans(self):
        for call in (choices_text, choices_shown, lambda plan: choices_text(plan, whole=True)):
            with self.assertRaises(BadPlan) as caught:
                call(("sum", ONE, ("is", True)))
            self.assertEqual(caught.exception.place, (2, 1))


if __name__ == "__main__":
    unittest.main()
