"""makers.py: [15.3], [15.6], [15.7]."""

import unittest

from makeplans import good_plan, shows_on_all

from goonagain.makers import makers_shown, makers_text

TEXT = ("(rec ((again (fn (i n f) (if (< i n) (do (f) (again (+ i 1) n f)) none))) (next (fn (g m) (if (pair? g) (do (show (left g))"
        " (if (< 1 m) (next ((right g) none) (- m 1)) none)) none)))) (next (mark P) most))")
ONE, TWO = ("give", 1), ("give", -2)


def steps(part, around):
    """What happens one by one: ("show", n), or ("item", n, what is around it)."""
    if part[0] == "give":
        return [("item", part[1], around)]
    if part[0] == "both":
        return steps(part[1], around) + steps(part[2], around)
    if part[0] == "again":
        return steps(part[2], around) * part[1]
    return [("show", part[1])] + steps(part[2], around + (part[1],)) + [("show", -part[1])]


def meant(plan, most):
    """The texts as [15.6] says them."""
    shown = []
    for step in steps(plan, ()):
        if step[0] == "show":
            shown.append(step[1])
        else:
            shown += [-number for number in reversed(step[2])] + [step[1]]
            most -= 1
            if most == 0:
                break
            shown += step[2]
    return tuple(str(number) for number in shown)


class Texts(unittest.TestCase):
    def text(self, plan, due, most=20):
        self.assertEqual(makers_text(plan, most), TEXT.replace("P", due).replace("most", str(most)))

    def test_each_part(self):
        self.text(ONE, "(take k (pair 1 k))")
        self.text(TWO, "(take k (pair -2 k))", 1)
        self.text(("both", ONE, TWO), "(do (take k (pair 1 k)) (take k (pair -2 k)))", 7)
        self.text(("again", 3, ONE), "(again 0 3 (fn () (take k (pair 1 k))))")
        self.text(("again", 0, ONE), "(again 0 0 (fn () (take k (pair 1 k))))")
        self.text(("within", 5, ONE), "(wind (fn () (show 5)) (take k (pair 1 k)) (fn () (show -5)))")
        self.text(("within", -5, ONE), "(wind (fn () (show -5)) (take k (pair 1 k)) (fn () (show 5)))")
        self.text(("within", 0, ONE), "(wind (fn () (show 0)) (take k (pair 1 k)) (fn () (show 0)))")

    def test_parts_within(self):
        self.text(("within", 7, ("both", ("again", 2, ("within", 8, ONE)), TWO)),
                  "(wind (fn () (show 7)) (do (again 0 2 (fn () (wind (fn () (show 8)) (take k (pair 1 k)) (fn () (show -8)))))"
                  " (take k (pair -2 k))) (fn () (show -7)))")

    def test_twenty_by_default(self):
        self.assertEqual(makers_text(ONE), makers_text(ONE, 20))
        self.assertEqual(makers_text(ONE, most=4), TEXT.replace("P", "(take k (pair 1 k))").replace("most", "4"))


class Shown(unittest.TestCase):
    def shown(self, plan, most, *due):
        self.assertEqual(makers_shown(plan, most), tuple(str(number) for number in due))
        self.assertTrue(shows_on_all(self, makers_text(plan, most), makers_shown(plan, most)))

    def test_each_part(self):
        self.shown(ONE, 20, 1)
        self.shown(("both", ONE, TWO), 20, 1, -2)
        self.shown(("both", ONE, TWO), 2, 1, -2)
        self.shown(("both", ONE, TWO), 1, 1)
        self.shown(("again", 3, ONE), 20, 1, 1, 1)
        self.shown(("again", 0, ONE), 20)
        self.shown(("again", 4, ("again", 4, ONE)), 11, *[1] * 11)

    def test_within(self):
        self.shown(("within", 5, ONE), 20, 5, -5, 1, 5, -5)
        self.shown(("within", 5, ("within", 6, ONE)), 20, 5, 6, -6, -5, 1, 5, 6, -6, -5)
        self.shown(("within", 5, ("both", ONE, TWO)), 20, 5, -5, 1, 5, -5, -2, 5, -5)
        self.shown(("within", 0, ONE), 20, 0, 0, 1, 0, 0)
        self.shown(("within", 5, ("again", 0, ONE)), 20, 5, -5)
        # Around the one, between the others.
        self.shown(("both", ("within", -5, ONE), ("both", TWO, ("within", 6, ONE))), 20, -5, 5, 1, -5, 5, -2, 6, -6, 1, 6, -6)

    def test_most_reached_within(self):
        plan = ("within", 5, ("both", ONE, ("within", 6, ("both", TWO, ONE))))
        self.shown(plan, 1, 5, -5, 1)
        self.shown(plan, 2, 5, -5, 1, 5, 6, -6, -5, -2)
        self.shown(plan, 3, 5, -5, 1, 5, 6, -6, -5, -2, 5, 6, -6, -5, 1)
        self.shown(plan, 4, 5, -5, 1, 5, 6, -6, -5, -2, 5, 6, -6, -5, 1, 5, 6, -6, -5)

    def test_twenty(self):
        plan = ("again", 4, ("again", 4, ("both", ONE, TWO)))
        self.shown(plan, 20, *[1, -2] * 10)
        self.assertEqual(makers_shown(plan), makers_shown(plan, 20))
        self.assertEqual(len(makers_shown(plan)), 20)
        self.assertTrue(shows_on_all(self, makers_text(plan), makers_shown(plan)))

    def test_random_plans(self):
        ended = 0
        for seed in range(150):
            plan, most = good_plan("makers", seed, 0.9), (20, 1, 2, 3, 7)[seed % 5]
            self.assertEqual(makers_shown(plan, most), meant(plan, most))
            ended += shows_on_all(self, makers_text(plan, most), makers_shown(plan, most))
        self.assertGreater(ended, 140)


if __name__ == "__main__":
    unittest.main()
