"""machine.py on the plain machine: operations, calls, inputs, fuel; [3.5] to [3.8], [3.10]."""

import unittest

from goonagain.errors import BadAsks
from goonagain.machine import Machine, Seen, run_seen
from goonagain.plain import PlainMachine
from goonagain.program import Program

BIG = 10 ** 9
END = ("end",)


def fault(word):
    return ("fault", word)


class Runs(unittest.TestCase):
    def run_of(self, text, asks=(), fuel=2000):
        seen = run_seen(PlainMachine(Program(text), asks, fuel))
        return seen.shows, seen.end

    def gives(self, text, *shows):
        self.assertEqual(self.run_of(text), (shows, END), text)

    def shown(self, form, text):
        self.gives(f"(show {form})", text)

    def faults(self, text, word, *shows):
        self.assertEqual(self.run_of(text), (shows, fault(word)), text)


class Operations(Runs):
    def test_sums_and_products(self):
        self.shown("(+ 2 3)", "5")
        self.shown("(- 2 3)", "-1")
        self.shown("(* -4 3)", "-12")
        self.shown("(- 0 0)", "0")
        self.shown("(+ 999999999 1)", str(BIG))
        self.shown("(- -999999999 1)", str(-BIG))
        self.shown("(* 100000 10000)", str(BIG))
        self.shown("(* -100000 10000)", str(-BIG))
        self.faults("(show (+ 1000000000 1))", "big")
        self.faults("(show (- -1000000000 1))", "big")
        self.faults("(show (* 100001 10000))", "big")
        self.faults("(show (* -1000000000 1000000000))", "big")
        self.faults("(show (- 1 -1000000000))", "big")

    def test_quot_and_rem_with_all_signs(self):
        for a, b, quot, rem in ((7, 2, 3, 1), (-7, 2, -4, 1), (7, -2, -4, -1), (-7, -2, 3, -1), (6, 3, 2, 0), (-6, 3, -2, 0),
                                (6, -3, -2, 0), (-6, -3, 2, 0), (0, 5, 0, 0), (0, -5, 0, 0), (1, BIG, 0, 1), (-1, BIG, -1, BIG - 1),
                                (1, -BIG, -1, 1 - BIG), (BIG, -1, -BIG, 0), (-BIG, -1, BIG, 0), (BIG, 1, BIG, 0)):
            self.shown(f"(quot {a} {b})", str(quot))
            self.shown(f"(rem {a} {b})", str(rem))

    def test_zero(self):
        for word in ("quot", "rem"):
            self.faults(f"(show ({word} 1 0))", "zero")
            self.faults(f"(show ({word} 0 0))", "zero")
            self.faults(f"(show ({word} none 0))", "kind")

    def test_comparisons(self):
        for a, b in ((1, 2), (2, 1), (2, 2), (-5, 3), (3, -5), (BIG, -BIG)):
            self.shown(f"(< {a} {b})", "true" if a < b else "false")
            self.shown(f"(= {a} {b})", "true" if a == b else "false")

    def test_kind(self):
        for word in ("+", "-", "*", "quot", "rem", "<", "="):
            for other in ("true", "false", "none", "(pair 1 2)", "(fn () 1)"):
                self.faults(f"({word} 1 {other})", "kind")
                self.faults(f"({word} {other} 1)", "kind")
            self.faults(f"(keep k ({word} k 1))", "kind")
        for other in ("1", "true", "false", "none", "(fn () 1)"):
            self.faults(f"(left {other})", "kind")
            self.faults(f"(right {other})", "kind")
            self.faults(f"(left! {other} 1)", "kind")
            self.faults(f"(right! {other} 1)", "kind")
        self.faults("(keep k (left k))", "kind")

    def test_pairs(self):
        self.shown("(left (pair 1 2))", "1")
        self.shown("(right (pair 1 2))", "2")
        self.gives("(let ((p (pair 1 2))) (show (left! p 3)) (show p) (show (right! p 4)) (show p) (show (left p)))",
                   "none", "(3 2)", "none", "(3 4)", "3")
        self.gives("(let ((p (pair 1 2))) (let ((q (pair p p))) (left! p 5) (show q) (right! (left q) 6) (show (right q))))",
                   "((5 2) (5 2))", "(5 6)")

    def test_same(self):
        for a, b, same in (
            ("1", "1", True), ("1", "2", False), ("0", "false", False), ("true", "true", True), ("false", "false", True),
            ("none", "none", True), ("true", "false", False), ("none", "false", False), ("1", "true", False),
            ("(pair 1 2)", "(pair 1 2)", False), ("p", "p", True), ("p", "q", False), ("f", "f", True), ("f", "g", False),
            ("(fn () 1)", "(fn () 1)", False), ("k", "k", True), ("k", "j", False), ("p", "f", False), ("k", "f", False),
            ("(left (pair p 1))", "p", True), ("p", "1", False), ("none", "p", False),
        ):
            self.gives(f"(let ((p (pair 1 2)) (q (pair 1 2)) (f (fn () 1)) (g (fn () 1))) (keep k (keep j (show (same? {a} {b})))))",
                       "true" if same else "false")

    def test_kinds_of_values(self):
        for word, kinds in (("pair?", "p"), ("none?", "none"), ("rest?", "k o t"), ("fun?", "f")):
            for value in ("1", "true", "false", "none", "p", "f", "k", "o", "t"):
                self.gives(f"(let ((p (pair 1 2)) (f (fn () 1))) (keep k (once o (take t (show ({word} {value}))))))",
                           "true" if value in kinds.split() else "false")

    def test_pair_takes_any_two_values(self):
        self.gives("(keep k (take t (show (pair (pair true false) (pair none (pair k (pair t (fn () -3))))))))",
                   "((true false) (none (<rest> (<rest> <fun>))))")

    def test_the_operands_are_evaluated_ahead_of_the_fault(self):
        self.faults("(+ (show true) (show 2))", "kind", "true", "2")
        self.faults("(quot (show 1) (show 0))", "zero", "1", "0")
        self.faults("(left! (show 1) (show 2))", "kind", "1", "2")
        self.faults("(+ (show 1000000000) (do (show 5)))", "big", "1000000000", "5")
        self.faults("(+ (left 1) (show 2))", "kind")
        self.faults("(+ (show 1) (left (show 2)))", "kind", "1", "2")
        self.faults("(show (+ 1 none))", "kind")
        self.faults("(pair (show 1) (+ (show 2) none))", "kind", "1", "2")

    def test_texts_shown_ahead_of_a_fault_stay(self):
        self.faults("(show 1) (show 2) (left 3) (show 4)", "kind", "1", "2")
        self.faults("((fn () (do (show 1) (1)))) (show 2)", "kind", "1")


class Shows(Runs):
    def test_atoms(self):
        for text in ("0", "7", "-7", "1000000000", "-1000000000", "true", "false", "none"):
            self.shown(text, text)
        self.shown("(fn () 1)", "<fun>")
        self.gives("(keep k (show k))", "<rest>")
        self.gives("(once k (show k))", "<rest>")
        self.gives("(take k (show k))", "<rest>")

    def test_it_gives_its_value(self):
        self.gives("(show (+ 1 (show 2)))", "2", "3")
        self.gives("(let ((p (pair 1 2))) (show (same? p (show p))))", "(1 2)", "true")

    def test_pairs(self):
        self.shown("(pair 1 2)", "(1 2)")
        self.shown("(pair (pair 1 2) (pair -3 none))", "((1 2) (-3 none))")
        self.shown("(pair 1 (pair 2 (pair 3 none)))", "(1 (2 (3 none)))")

    def listed(self, many):
        return f"(rec ((f (fn (n) (if (< n 1) none (pair n (f (- n 1))))))) (show (f {many})))"

    def test_twenty_pairs_and_twenty_one(self):
        text = "".join(f"({n} " for n in range(20, 0, -1)) + "none" + ")" * 20
        self.gives(self.listed(20), text)
        self.faults("(show 5) " + self.listed(21), "show", "5")

    def test_each_time_counts(self):
        # A tree of 15 pairs, made of four; of 31, made of five.
        halves = "(let ((a (pair 1 1))) (let ((b (pair a a))) (let ((c (pair b b))) (let ((d (pair c c))) {}))))"
        self.gives(halves.format("(show (left (show d)))"),
                   "((((1 1) (1 1)) ((1 1) (1 1))) (((1 1) (1 1)) ((1 1) (1 1))))", "(((1 1) (1 1)) ((1 1) (1 1)))")
        self.faults(halves.format("(show (pair d d))"), "show")
        self.faults(halves.format("(show (pair d (pair b (pair a a))))"), "show")
        self.faults(halves.format("(show (pair c (pair c (pair b a))))"), "show")
        self.gives(halves.format("(show (pair c (pair c (pair b 1))))"),
                   "((((1 1) (1 1)) ((1 1) (1 1))) ((((1 1) (1 1)) ((1 1) (1 1))) (((1 1) (1 1)) 1)))")

    def test_a_ring(self):
        self.faults("(let ((p (pair 1 2))) (right! p p) (show 1) (show p) (show 2))", "show", "1")
        self.faults("(let ((p (pair 1 2))) (left! p p) (show p))", "show")


class Asks(Runs):
    def test_inputs_one_by_one(self):
        text = "(show (ask)) (show (pair (ask) (ask))) (show (ask))"
        self.assertEqual(self.run_of(text, [5, -6, 7, 8]), (("5", "(-6 7)", "8"), END))
        self.assertEqual(self.run_of(text, (5,)), (("5", "(none none)", "none"), END))
        self.assertEqual(self.run_of(text), (("none", "(none none)", "none"), END))

    def test_asked(self):
        program = Program("(ask) (ask) ((fn () (ask))) (ask)")
        machine = PlainMachine(program, [1, 2, 3])
        self.assertEqual(machine.asked, 2)
        run_seen(machine)
        self.assertEqual(machine.asked, 3)
        machine = PlainMachine(program)
        run_seen(machine)
        self.assertEqual(machine.asked, 0)

    def test_bad_inputs(self):
        program = Program("1")
        for asks, index in (
            (None, 0), (5, 0), ("123", 0), ({1: 2}, 0), ({1}, 0), (range(3), 0), (iter([1]), 0), ([True], 0), ([1, False], 1),
            ([1, 2, BIG + 1], 2), ((-BIG - 1,), 0), ([1, "2"], 1), ([1, 2.0], 1), ([None], 0), (([1],), 0), ([0] * 41, 40),
            ([0] * 100, 40), ([0] * 40 + ["x"], 40), ([0] * 39 + [BIG * 2, 5], 39), ([0, True] + [0] * 60, 1), (b"12", 0),
        ):
            for maker in (PlainMachine, Machine):
                with self.assertRaises(BadAsks) as caught:
                    maker(program, asks)
                self.assertEqual(caught.exception.index, index, asks)

    def test_good_inputs(self):
        for asks in ([], (), [0] * 40, (BIG, -BIG), [1]):
            machine = PlainMachine(Program("1"), asks)
            self.assertEqual(machine.asks, tuple(asks))
            self.assertIsInstance(machine.asks, tuple)

    def test_the_inputs_are_copied(self):
        asks = [1, 2, 3]
        machine = PlainMachine(Program("(show (ask)) ((fn () 1)) (show (ask))"), asks)
        asks[1] = 99
        asks.append(5)
        self.assertEqual(machine.asks, (1, 2, 3))
        self.assertEqual(run_seen(machine).shows, ("1", "2"))
        self.assertEqual(asks, [1, 99, 3, 5])


class Calls(Runs):
    def test_each_kind_of_callee(self):
        self.gives("((fn (a b) (show (- a b))) 7 2)", "5")
        self.gives("(let ((c 9)) ((fn (a) (show (pair a c))) 1))", "(1 9)")
        self.gives("(show (+ 1 (keep k (do (k 5) 6))))", "6")
        self.gives("(show (+ 1 (once k (do (k 5) 6))))", "6")
        self.gives("(show (+ 1 (mark (+ 2 (take k (k 3))))))", "6")
        self.gives("(show (mark (+ 10 (take k (+ (k 1) (k 2))))))", "23")

    def test_kind(self):
        for callee in ("1", "true", "false", "none", "(pair 1 2)"):
            self.faults(f"({callee})", "kind")
            self.faults(f"({callee} (show 1) 2)", "kind", "1")

    def test_arity(self):
        self.faults("((fn () 1) 2)", "arity")
        self.faults("((fn (a) 1))", "arity")
        self.faults("((fn (a) 1) 2 3)", "arity")
        for word in ("keep", "once", "take"):
            self.faults(f"({word} k (k))", "arity")
            self.faults(f"({word} k (k 1 2))", "arity")

    def test_once(self):
        self.faults("(let ((r none)) (once k (set r k)) (show 1) (r 2))", "once", "1")
        # With another number of values it is the arity.
        self.faults("(let ((r none)) (once k (set r k)) (r))", "arity")
        self.faults("(let ((r none)) (once k (set r k)) (r 1 2))", "arity")
        # Ahead of any deed.
        self.faults("(let ((r none)) (once k (set r k)) (wind (fn () (show 1)) (r 2) (fn () (show 3))))", "once", "1")
        self.gives("(let ((r none)) (show (once k (do (set r k) (k 7)))))", "7")
        self.faults("(let ((r none)) (show (once k (do (set r k) (k 7)))) (r 8))", "once", "7")

    def test_deeds_get_nothing(self):
        self.gives("(wind (fn () (show 1)) (show 2) (fn () (show 3)))", "1", "2", "3")
        self.faults("(wind (fn (a) (show 1)) (show 2) (fn () (show 3)))", "arity")
        self.faults("(wind (fn () (show 1)) (show 2) (fn (a) (show 3)))", "arity", "1", "2")
        self.faults("(wind 1 (show 2) (fn () 1))", "kind")
        self.faults("(wind (fn () 1) (show 2) none)", "kind", "2")
        self.faults("(keep k (wind k (show 2) (fn () 1)))", "arity")
        self.faults("(keep k (wind (fn () 1) (show 2) k))", "arity", "2")
        self.faults("(let ((r none)) (once k (set r k)) (wind (fn () 1) (show 2) r))", "arity", "2")


class Attributes(unittest.TestCase):
    LOOP = "(rec ((f (fn (n) (do (show n) (f (+ n 1)))))) (f 0))"

    def test_at_the_first_call(self):
        program = Program("(show 1) (show (ask)) ((fn () (show 3)))")
        machine = PlainMachine(program, [8, 9], 77)
        self.assertIs(machine.program, program)
        self.assertEqual((machine.asks, machine.fuel, machine.calls, machine.outcome), ((8, 9), 77, 0, None))
        self.assertEqual((machine.copied, machine.asked, machine.shown), (0, 1, ("1", "8")))
        self.assertEqual((PlainMachine.KIND, machine.KIND), ("plain", "plain"))
        self.assertIsInstance(machine, Machine)
        self.assertIsNone(machine.advance())
        self.assertEqual((machine.calls, machine.outcome, machine.shown), (1, END, ("1", "8", "3")))

    def test_defaults(self):
        machine = PlainMachine(Program("1"))
        self.assertEqual((machine.asks, machine.fuel), ((), 2000))
        machine = PlainMachine(Program("1"), fuel=3, asks=[4])
        self.assertEqual((machine.asks, machine.fuel), ((4,), 3))

    def test_an_outcome_without_a_call(self):
        machine = PlainMachine(Program("(show 1)"), (), 0)
        self.assertEqual((machine.outcome, machine.calls, machine.shown, machine.standing()), (END, 0, ("1",), None))
        machine = PlainMachine(Program("(show (left 1))"))
        self.assertEqual((machine.outcome, machine.shown, machine.standing()), (fault("kind"), (), None))

    def test_advance_at_an_outcome_does_nothing(self):
        for text in ("1", "(left 1)", "((fn () 1))", "(1)"):
            machine = PlainMachine(Program(text))
            run_seen(machine)
            before = dict(vars(machine))
            self.assertIsNone(machine.advance())
            self.assertEqual(vars(machine), before)
            self.assertIsNone(machine.standing())

    def test_fuel(self):
        for fuel in (0, 1, 2, 7):
            machine = PlainMachine(Program(self.LOOP), (), fuel)
            for calls in range(fuel):
                self.assertEqual((machine.calls, machine.outcome), (calls, None))
                self.assertIsNone(machine.advance())
            self.assertEqual((machine.calls, machine.outcome), (fuel, None))
            self.assertIsNotNone(machine.standing())
            self.assertIsNone(machine.advance())
            self.assertEqual((machine.calls, machine.outcome), (fuel, ("fuel",)))
            self.assertEqual(machine.shown, tuple(str(n) for n in range(fuel)))
            self.assertIsNone(machine.standing())
            machine.advance()
            self.assertEqual((machine.calls, machine.outcome), (fuel, ("fuel",)))

    def test_fuel_that_is_just_enough(self):
        program = Program("((fn () 1)) ((fn () (show 2)))")
        self.assertEqual(run_seen(PlainMachine(program, (), 2)), Seen(("2",), END))
        self.assertEqual(run_seen(PlainMachine(program, (), 1)), Seen((), ("fuel",)))

    def test_a_fault_uses_the_call(self):
        machine = PlainMachine(Program("(1)"), (), 1)
        run_seen(machine)
        self.assertEqual((machine.calls, machine.outcome), (1, fault("kind")))
        machine = PlainMachine(Program("(1)"), (), 0)
        run_seen(machine)
        self.assertEqual((machine.calls, machine.outcome), (0, ("fuel",)))

    def test_two_thousand_calls(self):
        machine = PlainMachine(Program(self.LOOP))
        seen = run_seen(machine)
        self.assertEqual((len(seen.shows), seen.end, machine.calls), (2000, ("fuel",), 2000))


class SeenTests(unittest.TestCase):
    def test_seen_keeps_what_it_is_given(self):
        shows, end = ["1"], ["end"]
        seen = Seen(shows, end)
        self.assertIs(seen.shows, shows)
        self.assertIs(seen.end, end)

    def test_equal(self):
        self.assertTrue(Seen(("1",), END) == Seen(("1",), END))
        self.assertFalse(Seen(("1",), END) == Seen(("2",), END))
        self.assertFalse(Seen(("1",), END) == Seen(("1",), ("fuel",)))
        self.assertFalse(Seen(("1",), END) == (("1",), END))
        self.assertTrue(Seen(("1",), END) != Seen((), END))

    def test_run_seen(self):
        machine = PlainMachine(Program("(show 1) ((fn () (show 2))) (left 3)"))
        machine.advance()
        self.assertEqual(run_seen(machine), Seen(("1", "2"), fault("kind")))
        self.assertEqual(run_seen(machine), Seen(("1", "2"), fault("kind")))
        self.assertEqual(machine.outcome, fault("kind"))


if __name__ == "__main__":
    unittest.main()
