"""walker.py: [5.1], [5.3] to [5.8], beside the plain machine."""

import unittest

from makeprograms import good_tree
from writtenprograms import TEXTS

from goonagain.errors import BadAsks
from goonagain.machine import Seen, run_seen
from goonagain.plain import PlainMachine
from goonagain.program import Program
from goonagain.reader import read_program
from goonagain.walker import Walked, walk, walk_counted

END = ("end",)
FUEL = ("fuel",)


def deeds_of(machine):
    """Advances a plain machine to its outcome; the deeds that it performed, told from its standings alone."""
    deeds = []
    born = 0
    while machine.outcome is None:
        standing = machine.standing()
        things = dict(standing.things)
        top = standing.frames[-1] if standing.frames else 0
        # At a deed, and nowhere else, the topmost frame is a way frame that was made since the last call.
        if top > born and things[top][0] == "way" and machine.calls < machine.fuel:
            winds = len([birth for birth in standing.frames if things[birth][0] == "wind"])
            road = things[top][1]
            enters = road[0] == "on" or road[0] == "to" and road[2] > 0
            deeds.append(("enter" if enters else "leave", winds))
        born = standing.born
        machine.advance()
    return tuple(deeds)


def both(test, tree, asks=(), fuel=2000, standings=True):
    """Runs a tree by the walker and by the plain machine; returns what the walker tells."""
    machine = PlainMachine(Program.of_tree(tree), asks, fuel)
    walked = walk_counted(tree, asks, fuel)
    if standings:
        test.assertEqual(walked.deeds, deeds_of(machine))
    else:
        run_seen(machine)
    told = (machine.shown, machine.outcome, machine.calls, machine.asked)
    test.assertEqual((walked.shows, walked.end, walked.calls, walked.asked), told)
    test.assertEqual(walk(tree, asks, fuel), Seen(machine.shown, machine.outcome))
    return walked


class Beside(unittest.TestCase):
    def test_texts_with_every_fuel(self):
        for text in TEXTS:
            tree = read_program(text)
            for asks in ((), (3,), [1, -2, 5]):
                calls = both(self, tree, asks).calls
                for fuel in range(min(calls, 60) + 3):
                    both(self, tree, asks, fuel)

    def test_random_programs(self):
        ends = {}
        for seed in range(500):
            tree = good_tree(seed, deep=4 + seed % 4, gentle=seed % 2 == 0)
            if tree is not None:
                walked = both(self, tree, tuple(range(seed % 4)), (2, 9, 40, 150)[seed % 4])
                ends[walked.end] = ends.get(walked.end, 0) + 1
        for end in (END, FUEL, ("fault", "kind"), ("fault", "arity")):
            self.assertGreater(ends.get(end, 0), 3, end)

    def test_random_programs_with_every_fuel(self):
        for seed in range(1000, 1060):
            tree = good_tree(seed, deep=6, gentle=True)
            if tree is not None:
                for fuel in range(min(both(self, tree, (1,), 30).calls, 30) + 2):
                    both(self, tree, (1,), fuel)

    def test_faults_of_every_word(self):
        many = "(rec ((f (fn (n) (if (< n 1) none (pair n (f (- n 1))))))) (show (f 21)))"
        for text, word in (("(left 1)", "kind"), ("(1)", "kind"), ("((fn () 1) 1)", "arity"), ("(keep k (k))", "arity"),
                           ("(rem 1 0)", "zero"), ("(+ 1 1000000000)", "big"), (many, "show"),
                           ("(let ((r none)) (once k (set r k)) (r 1))", "once")):
            self.assertEqual(both(self, read_program(text)).end, ("fault", word))


class Bindings(unittest.TestCase):
    def shows(self, text, *shows):
        self.assertEqual(both(self, read_program(text)).shows, shows)

    def test_a_let_gone_on_with_twice_has_two_bindings(self):
        self.shows("""(let ((r none) (a none) (n 0))
          (let ((x (keep k (do (set r k) 10))))
            (set n (+ n 1))
            (if (= n 1) (do (set a (fn () (do (set x (+ x 1)) (show x)))) (r 20))
              (do (show x) (a) (a) (show x) (set x 5) (a) (show x)))))""", "20", "11", "12", "20", "13", "5")

    def test_the_operands_of_a_call_likewise(self):
        self.shows("""(let ((r none) (a none) (n 0))
          ((fn (x y) (do (set n (+ n 1))
            (if (= n 1) (do (set a (fn () (do (set x (+ x 1)) (show x)))) (r 20))
              (do (show x) (a) (show x) (set x 5) (a) (show x)))))
           1 (keep k (do (set r k) 10))))""", "1", "2", "1", "3", "5")

    def test_goings_on_that_share_a_binding(self):
        self.shows("""(let ((r none) (n 0))
          (let ((x 1)) (keep k (set r k)) (show x) (set x (+ x 1)) (set n (+ n 1)) (if (< n 3) (r 0) none)))""",
                   "1", "2", "3")

    def test_operands_so_far_are_not_shared(self):
        self.shows("""(let ((r none) (n 0))
          (show (pair (set n (+ n 1)) (pair n (keep k (do (set r k) 0))))) (if (< n 3) (do (set n (+ n 1)) (r n)) none))""",
                   "(none (1 0))", "(none (1 2))", "(none (1 3))")

    def test_the_name_of_a_take_is_bound_at_each_call_that_ends_it(self):
        self.shows("""(let ((r none) (a none) (n 0))
          (mark (wind (fn () 0)
            (take p (do (set n (+ n 1))
              (if (= n 1) (do (set a (fn () (show p))) (set p 7) (a) (r 0)) (do (show (rest? p)) (a) (set p 8) (a)))))
            (fn () (keep k (set r k))))))""", "7", "true", "7", "7")

    def test_a_name_set_in_a_right_side_of_another(self):
        self.shows("(let ((x 1)) (let ((y (set x 2)) (z x)) (show x) (show z)))", "2", "2")

    def test_set_of_what_keep_once_and_take_bind(self):
        for word in ("keep", "once", "take"):
            self.shows(f"({word} k (do (show (rest? k)) (set k 5) (show k)))", "true", "5")


class Counted(unittest.TestCase):
    def counted(self, text, *parts, asks=(), fuel=2000):
        walked = both(self, read_program(text), asks, fuel)
        self.assertEqual(tuple(vars(walked).values()), parts)

    def test_example_5_8(self):
        self.counted("(keep k (wind (fn () (show 1)) (k 7) (fn () (show 2))))", ("1", "2"), END, 4, 0, (("enter", 0), ("leave", 0)))

    def test_no_calls(self):
        self.counted("(show 1)", ("1",), END, 0, 0, ())

    def test_calls_of_each_kind(self):
        self.counted("((fn () 1))", (), END, 1, 0, ())
        self.counted("(keep k (k 1))", (), END, 1, 0, ())
        self.counted("(take k 1)", (), END, 1, 0, ())
        self.counted("(take k (k 1))", (), END, 2, 0, ())
        self.counted("(wind (fn () 1) 2 (fn () 3))", (), END, 3, 0, (("enter", 0), ("leave", 0)))
        self.counted("(mark 1)", (), END, 0, 0, ())

    def test_inputs(self):
        self.counted("(ask) (ask)", (), END, 0, 2, (), asks=[1, 2, 3])
        self.counted("(ask) (ask)", (), END, 0, 1, (), asks=[1])
        self.counted("(ask) (ask)", (), END, 0, 0, ())

    def test_positions_count_over_all_marks(self):
        self.counted("(wind (fn () 1) (mark (wind (fn () 1) (mark (take k (k 1))) (fn () 1))) (fn () 1))", (), END, 8, 0,
                     (("enter", 0), ("enter", 1), ("leave", 1), ("leave", 0)))
        self.counted("(wind (fn () 1) (mark (wind (fn () 1) (take k (k 1)) (fn () 1))) (fn () 1))", (), END, 10, 0,
                     (("enter", 0), ("enter", 1), ("leave", 1), ("enter", 1), ("leave", 1), ("leave", 0)))

    def test_deeds_of_a_way(self):
        self.counted("""(let ((r none) (n 0))
          (wind (fn () 1) (wind (fn () 1) (keep k (set r k)) (fn () 1)) (fn () 1))
          (set n (+ n 1)) (if (< n 2) (r 0) none))""", (), END, 11, 0, (
            ("enter", 0), ("enter", 1), ("leave", 1), ("leave", 0), ("enter", 0), ("enter", 1), ("leave", 1), ("leave", 0)))

    def test_a_wind_within_a_deed(self):
        self.counted("(wind (fn () (wind (fn () 1) 2 (fn () 3))) 4 (fn () 5))", (), END, 6, 0,
                     (("enter", 0), ("enter", 0), ("leave", 0), ("leave", 0)))

    def test_a_deed_with_a_fault_is_performed(self):
        self.counted("(wind 1 2 3)", (), ("fault", "kind"), 1, 0, (("enter", 0),))
        self.counted("(wind (fn (a) 1) 2 3)", (), ("fault", "arity"), 1, 0, (("enter", 0),))
        self.counted("(wind (fn () 1) 2 3)", (), ("fault", "kind"), 3, 0, (("enter", 0), ("leave", 0)))
        self.counted("(wind (fn () (left 1)) 2 3)", (), ("fault", "kind"), 1, 0, (("enter", 0),))

    def test_a_deed_without_fuel_is_not(self):
        text = "(wind (fn () 1) 2 (fn () 3))"
        self.counted(text, (), FUEL, 0, 0, (), fuel=0)
        self.counted(text, (), FUEL, 1, 0, (("enter", 0),), fuel=1)
        self.counted(text, (), FUEL, 2, 0, (("enter", 0),), fuel=2)
        self.counted(text, (), END, 3, 0, (("enter", 0), ("leave", 0)), fuel=3)

    def test_walked_keeps_what_it_is_given(self):
        parts = ([1], "end", None, -1, {})
        walked = Walked(*parts)
        for name, part in zip(("shows", "end", "calls", "asked", "deeds"), parts):
            self.assertIs(getattr(walked, name), part)

    def test_walked_is_compared_by_all_five(self):
        parts = (("1",), END, 4, 0, (("enter", 0),))
        self.assertTrue(Walked(*parts) == Walked(*parts))
        for at in range(5):
            other = list(parts)
            other[at] = 99
            self.assertFalse(Walked(*parts) == Walked(*other))
            self.assertTrue(Walked(*parts) != Walked(*other))
        self.assertFalse(Walked(*parts) == parts)

    def test_what_is_returned_has_tuples(self):
        walked = walk_counted(read_program("(show (wind (fn () 1) 2 (fn () 3)))"))
        for part in (walked.shows, walked.end, walked.deeds) + walked.deeds:
            self.assertIsInstance(part, tuple)
        seen = walk(read_program("(show 1)"))
        self.assertIsInstance(seen, Seen)
        self.assertEqual((seen.shows, seen.end), (("1",), END))


class Inputs(unittest.TestCase):
    def test_bad_inputs(self):
        for asks, index in ((None, 0), ("12", 0), ({}, 0), ([1, True], 1), ([10 ** 9 + 1], 0), ((0, -10 ** 9 - 1), 1),
                            ([0] * 41, 40), ([1, "x"], 1), ([0] * 45 + [None], 40)):
            for walker in (walk, walk_counted):
                with self.assertRaises(BadAsks) as caught:
                    walker(("ask",), asks)
                self.assertEqual(caught.exception.index, index)

    def test_the_inputs_are_not_changed(self):
        asks = [1, 2]
        walk(read_program("(show (ask)) (show (ask)) (show (ask))"), asks)
        self.assertEqual(asks, [1, 2])

    def test_defaults(self):
        tree = read_program("(rec ((f (fn (n) (do (show (ask)) (f (+ n 1)))))) (f 0))")
        self.assertEqual(walk(tree), Seen(("none",) * 2000, FUEL))
        walked = walk_counted(tree)
        self.assertEqual((walked.calls, walked.asked, walked.end), (2000, 0, FUEL))

    def test_by_keyword(self):
        tree = read_program("(show (ask)) ((fn () 1))")
        self.assertEqual(walk(tree, fuel=0, asks=[4]), Seen(("4",), FUEL))
        self.assertEqual(walk_counted(tree=tree, asks=(4,), fuel=1).end, END)


class Large(unittest.TestCase):
    """[5.3], [5.7]: what no text may have, and runs that lead deep."""

    def test_a_tree_that_is_too_deep(self):
        tree = ("number", 1)
        for _ in range(99):
            tree = ("op", "+", (tree, ("number", 1)))
        self.assertEqual(walk(("show", tree)), Seen(("100",), END))
        tree = ("number", 5)
        for deep in range(98):
            tree = ("mark", tree) if deep % 2 else ("do", (tree,))
        self.assertEqual(walk(("show", tree)), Seen(("5",), END))
        tree = ("name", "x")
        for _ in range(97):
            tree = ("call", ("fn", ("x",), tree), (("op", "+", (("name", "x"), ("number", 1))),))
        self.assertEqual(walk(("let", (("x", ("number", 0)),), ("show", tree))), Seen(("97",), END))

    def test_a_tree_that_is_too_wide(self):
        one = ("show", ("number", 1))
        self.assertEqual(walk(("do", (one,) * 500)), Seen(("1",) * 500, END))
        names = tuple(f"n{k}" for k in range(200))
        let = ("let", tuple((name, ("number", k)) for k, name in enumerate(names)), ("show", ("name", "n199")))
        self.assertEqual(walk(let), Seen(("199",), END))
        call = ("call", ("fn", names, ("show", ("name", "n7"))), (("number", 3),) * 200)
        self.assertEqual(walk(call), Seen(("3",), END))
        funs = ("do", (("call", ("fn", (), ("number", 1)), ()),) * 100 + (one,))
        self.assertEqual(walk(funs), Seen(("1",), END))

    def test_runs_that_lead_deep(self):
        for text in (
            "(rec ((f (fn (n) (if (< n 1) 0 (+ 1 (f (- n 1))))))) (show (f 1990)))",
            "(rec ((f (fn (n) (+ 1 (+ 1 (+ 1 (f n))))))) (f 1))",
            "(let ((r none) (n 0)) (do (keep k (set r k)) (set n (+ n 1)) (if (< n 1500) (r 1) (show n))))",
            "(let ((r none) (n 0)) (do (keep k (set r k)) (set n (+ n 1)) (r 1)))",
            "(rec ((f (fn (n) (if (< n 1) 0 (wind (fn () 1) (f (- n 1)) (fn () 2)))))) (show (f 490)))",
            "(rec ((f (fn (n) (wind (fn () 1) (f (- n 1)) (fn () 2))))) (show (f 4000)))",
            "(rec ((f (fn (n r) (+ 1 (keep k (f (+ n 1) (pair k r))))))) (f 0 none))",
            "(rec ((f (fn (n r) (+ 1 (take k (f (+ n 1) (pair k r))))))) (f 0 none))",
            "(rec ((f (fn (n) (mark (+ 1 (f (+ n 1))))))) (f 0))",
            "(rec ((f (fn (n k) (if (< n 1) (k 0) (f (- n 1) (mark (+ 1 (take j (do (fn (x) (j (k x)))))))))))) (show (f 400 (fn (x) x))))",
            "(let ((p (mark (+ 1 (take k k))))) (rec ((f (fn (n) (do (set p (mark (p (take k (do k))))) (f (- n 1)))))) (f 1)))",
            "(let ((p (mark (do (take k k) 1)))) (rec ((f (fn (n) (+ 1 (p (f n)))))) (f 1)))",
            "(let ((p (mark (+ 1 (take k k))))) (rec ((f (fn (q) (f (fn (x) (p (q x))))))) (f p)))",
            "(let ((p (mark (+ 1 (take k k))))) (rec ((f (fn (n q) (if (< n 1) (show (q 0)) (f (- n 1) (fn (x) (p (q x)))))))) (f 600 p)))",
        ):
            both(self, read_program(text), standings=False)

    def test_every_fuel_of_a_deep_run(self):
        tree = read_program("(rec ((f (fn (n) (wind (fn () 1) (mark (+ 1 (f (+ n 1)))) (fn () 2))))) (f 0))")
        for fuel in tuple(range(40)) + (500, 999, 1000, 1999, 2000):
            walked = walk_counted(tree, (), fuel)
            self.assertEqual((walked.calls, walked.end), (fuel, FUEL))


if __name__ == "__main__":
    unittest.main()
