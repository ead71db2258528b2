"""plain.py: births, rows, frames, roads and standings; [0.2], [3.2] to [3.5], [3.8], [3.9], [3.11]."""

import unittest

from makeprograms import good_tree

from goonagain.machine import Seen, run_seen
from goonagain.plain import PlainMachine
from goonagain.program import Program
from goonagain.standing import Standing

NONE = ("none",)


def fun(birth):
    return ("fun", birth)


def rest(birth):
    return ("rest", birth)


class Plain(unittest.TestCase):
    def machine(self, text, calls=0, asks=()):
        machine = PlainMachine(Program(text), asks)
        for _ in range(calls):
            machine.advance()
        self.assertIsNone(machine.outcome)
        return machine

    def stands(self, machine, callee, handed, frames, born, things):
        """Compares the present standing, but for its counts."""
        standing = machine.standing()
        self.assertIsInstance(standing, Standing)
        self.assertEqual((standing.callee, standing.handed, standing.frames), (callee, handed, frames))
        self.assertEqual(dict(standing.things), things)
        self.assertEqual([birth for birth, _ in standing.things], sorted(things))
        self.assertEqual(standing.born, born)

    def shows(self, text, *shows, end=("end",)):
        self.assertEqual(run_seen(PlainMachine(Program(text))), Seen(shows, end), text)


class RowsAndBirths(Plain):
    def test_example_3_11(self):
        machine = self.machine("(+ 1 (keep k (k 5)))")
        self.assertEqual(machine.standing(), Standing(
            rest(2), (5,), (1,), ((1, ("wait", 0, (1,))), (2, ("keep", (1,)))), 2, 0, 0, 0))

    def test_let_and_call(self):
        self.stands(self.machine("(let ((x 1) (y none)) (x y true))"), 1, (NONE, ("true",)), (), 0, {})
        self.stands(self.machine("(let ((p (pair 1 2)) (q (pair 3 4))) ((fn (a) q) (pair p 5)))"), fun(3), (("pair", 4),), (), 4, {
            1: ("pair", 1, 2), 2: ("pair", 3, 4), 3: ("fun", 1, (("pair", 2),)), 4: ("pair", ("pair", 1), 5)})

    def test_the_called_one_comes_first(self):
        self.stands(self.machine("((fn () 1) (pair 1 2) (fn () 3))"), fun(1), (("pair", 2), fun(3)), (), 3, {
            1: ("fun", 1, ()), 2: ("pair", 1, 2), 3: ("fun", 2, ())})

    def test_rec(self):
        self.stands(self.machine("(let ((a (pair 1 2))) (rec ((f (fn () g)) (g (fn () (a f g)))) (f g)))"), fun(2), (fun(3),), (), 3, {
            1: ("pair", 1, 2), 2: ("fun", 1, (fun(3),)), 3: ("fun", 2, (("pair", 1), fun(2), fun(3)))})

    def test_wait(self):
        machine = self.machine("(let ((x 7)) (+ (1 x) (2)))")
        self.stands(machine, 1, (7,), (1,), 1, {1: ("wait", 0, (7,))})
        machine = self.machine("(let ((x 7)) (+ (keep k (k x)) (2)))", 1)
        # The value stands behind the env of the place; the frame is gone.
        self.stands(machine, 2, (), (3,), 3, {3: ("wait", 1, (7, 7))})

    def test_keep(self):
        self.stands(self.machine("(show (keep k (show (keep j (1 k j)))))"), 1, (rest(2), rest(4)), (1, 3), 4, {
            1: ("wait", 0, ()), 2: ("keep", (1,)), 3: ("wait", 1, (rest(2),)), 4: ("keep", (1, 3))})
        self.stands(self.machine("(keep k (1 k))"), 1, (rest(1),), (), 1, {1: ("keep", ())})

    def test_once(self):
        # The rest, then its frame; the rest holds the frame itself.
        self.stands(self.machine("(show (once k (1 k)))"), 1, (rest(2),), (1, 3), 3, {
            1: ("wait", 0, ()), 2: ("once", (1, 3), 0), 3: ("pass", 2)})
        # The frame alone reaches the rest.
        self.stands(self.machine("(once k (1))"), 1, (), (2,), 2, {1: ("once", (2,), 0), 2: ("pass", 1)})

    def test_mark(self):
        self.stands(self.machine("(show (mark (1)))"), 1, (), (1, 2), 2, {1: ("wait", 0, ()), 2: ("mark",)})

    def test_if(self):
        for test, callee in (("true", 1), ("false", 2), ("none", 1), ("0", 1), ("(< 1 2)", 1), ("(< 2 1)", 2), ("(pair 1 2)", 1)):
            machine = self.machine(f"(if {test} (1) (2))")
            self.assertEqual(machine.standing().callee, callee)

    def test_take(self):
        # The fun, then the piece; without a mark all frames are taken.
        machine = self.machine("(let ((x 9)) (show (take k (k x))))")
        self.stands(machine, fun(2), (rest(3),), (), 3, {1: ("wait", 0, (9,)), 2: ("fun", 1, (9,)), 3: ("piece", (1,))})
        machine = self.machine("(show (mark (show (mark (show (take k (k 1)))))))")
        self.stands(machine, fun(6), (rest(7),), (1, 2, 3, 4), 7, {
            1: ("wait", 0, ()), 2: ("mark",), 3: ("wait", 1, ()), 4: ("mark",), 5: ("wait", 2, ()), 6: ("fun", 1, ()),
            7: ("piece", (5,))})
        machine = self.machine("(mark (take k 1))")
        self.stands(machine, fun(2), (rest(3),), (1,), 3, {1: ("mark",), 2: ("fun", 1, ()), 3: ("piece", ())})

    def test_wind(self):
        # Enter, body, leave, then the wind, then the way frame of its enter deed.
        machine = self.machine("(show (wind (fn () 1) 2 (fn () 3)))")
        made = {1: ("wait", 0, ()), 2: ("fun", 1, ()), 3: ("fun", 3, ()), 4: ("fun", 2, ()), 5: ("wind", fun(2), fun(4)),
                6: ("way", ("on", (5,)), ("call", fun(3), ()))}
        self.stands(machine, fun(2), (), (1, 6), 6, made)
        machine.advance()
        del made[6]
        # The body's fun is called; the wind lies below it.
        self.stands(machine, fun(3), (), (1, 5), 6, made)
        machine.advance()
        # The value comes to the wind: its leave deed, and what gives the value on.
        self.stands(machine, fun(4), (), (1, 7), 7, {1: ("wait", 0, ()), 4: ("fun", 2, ()), 7: ("way", ("out",), ("give", 2))})
        machine.advance()
        self.assertEqual((machine.shown, machine.outcome, machine.calls), (("2",), ("end",), 3))

    def test_operands_of_a_wind_that_may_call(self):
        machine = self.machine("(wind (do (fn () 1)) 2 (pair 1 2))", 0)
        # Enter and leave are bound ahead of the body's fun.
        self.stands(machine, fun(2), (), (6,), 6, {
            2: ("fun", 1, ()), 3: ("pair", 1, 2), 4: ("fun", 2, ()), 5: ("wind", fun(2), ("pair", 3)),
            6: ("way", ("on", (5,)), ("call", fun(4), ()))})


class Frames(Plain):
    def test_a_value_that_comes_to_a_mark(self):
        machine = self.machine("(1 (mark (mark (keep k (k 7)))))", 1)
        self.stands(machine, 1, (7,), (), 4, {})

    def test_a_value_that_comes_to_a_pass_frame(self):
        machine = self.machine("(1 (once k (do (2 k) k)))")
        self.stands(machine, 2, (rest(2),), (1, 3, 4), 4, {
            1: ("wait", 0, (1,)), 2: ("once", (1, 3), 0), 3: ("pass", 2), 4: ("wait", 1, (1, rest(2)))})
        machine = self.machine("(1 (once k k))")
        self.stands(machine, 1, (rest(2),), (), 3, {2: ("once", (), 1)})

    def test_a_pass_frame_for_the_second_time(self):
        # j holds the frames of k's body, k is used when the first value has passed.
        self.shows("(let ((j none) (n 0)) (show (once k (keep i (do (set j i) 1)))) (set n (+ n 1)) (if (< n 5) (j 2) none))",
                   "1", end=("fault", "once"))
        # By its own rest, called amid its body.
        self.shows("(let ((r none)) (show (once k (do (set r k) (k 1)))) (show 2) (r 3))", "1", "2", end=("fault", "once"))

    def test_a_used_once_rest_holds_no_frames(self):
        machine = self.machine("(let ((r none)) (do (once k (do (set r k) 1)) (1 r)))")
        self.assertEqual([thing for _, thing in machine.standing().things if thing[0] == "once"], [("once", (), 1)])

    def test_a_value_that_comes_to_a_way_frame_is_dropped(self):
        self.shows("(show (wind (fn () 11) 22 (fn () 33)))", "22")

    def test_no_frame(self):
        self.shows("7")
        self.shows("(mark (once k (mark 7)))")

    def test_winds_within_winds(self):
        self.shows("(show (wind (fn () (show 1)) (wind (fn () (show 2)) (show 3) (fn () (show 4))) (fn () (show 5))))",
                   "1", "2", "3", "4", "5", "3")


class Performing(Plain):
    def test_a_fun(self):
        machine = self.machine("(let ((a 5) (b 6)) ((fn (x y) (x y b a)) 1 2))", 1)
        self.stands(machine, 1, (2, 6, 5), (), 1, {})
        self.assertEqual(machine.standing().calls, 1)

    def test_a_keep_rest(self):
        machine = self.machine("(2 (keep k (show (mark (k 7)))))", 1)
        self.stands(machine, 2, (7,), (), 4, {})
        machine = self.machine("(2 (keep k (3 (k 7) 8)))", 1)
        self.stands(machine, 2, (7,), (), 3, {})

    def test_a_keep_rest_gone_on_with_again(self):
        self.shows("(let ((r none) (n 0)) (show (keep k (do (set r k) 0))) (set n (+ n 1)) (if (< n 4) (r n) (show none)))",
                   "0", "1", "2", "3", "none")

    def test_a_piece_makes_a_new_mark(self):
        machine = self.machine("(mark (pair (take k (show (k 7))) (1)))")
        # 1 mark, 2 wait, 3 fun, 4 piece; then 5 wait; then the new mark 6; then the pair waits for 1.
        machine.advance()
        self.stands(machine, rest(4), (7,), (1, 5), 5, {
            1: ("mark",), 2: ("wait", 0, ()), 4: ("piece", (2,)), 5: ("wait", 1, (rest(4),))})
        machine.advance()
        self.stands(machine, 1, (), (1, 5, 6, 7), 7, {
            1: ("mark",), 2: ("wait", 0, ()), 4: ("piece", (2,)), 5: ("wait", 1, (rest(4),)), 6: ("mark",), 7: ("wait", 2, (7,))})

    def test_a_piece_laid_on_twice(self):
        self.shows("(mark (do (show (+ 1 (take k (do (show 10) (k (k 5)))))) none))", "10", "6", end=("fault", "kind"))
        self.shows("(show (mark (+ 1 (take k (k (k 5))))))", "7")
        self.shows("(show (mark (wind (fn () (show 1)) (take k (pair (k 5) (k 6))) (fn () (show 2)))))",
                   "1", "2", "1", "2", "1", "2", "(5 6)")

    def test_the_road_to_with_its_deeds(self):
        text = """(let ((r none) (n 0))
          (wind (fn () (show 1)) (wind (fn () (show 2)) (keep k (set r k)) (fn () (show 3))) (fn () (show 4)))
          (set n (+ n 1))
          (wind (fn () (show 5)) (if (< n 2) (r 0) (show 9)) (fn () (show 6))))"""
        self.shows(text, "1", "2", "3", "4", "5", "6", "1", "2", "3", "4", "5", "9", "6")

    def test_shared_winds_are_neither_left_nor_entered(self):
        self.shows("(wind (fn () (show 1)) (show (keep k (wind (fn () (show 2)) (k 5) (fn () (show 3))))) (fn () (show 4)))",
                   "1", "2", "3", "5", "4")

    def test_a_road_step_by_step(self):
        machine = self.machine("(show (keep k (wind (fn () 1) (wind (fn () 2) (k 5) (fn () 4)) (fn () 3))))", 4)
        # 1 wait, 2 keep, 3 to 5 funs, 6 wind, 7 way, 8 to 10 funs, 11 wind, 12 way.
        standing = machine.standing()
        self.assertEqual((standing.callee, standing.handed, standing.frames, standing.born), (rest(2), (5,), (1, 6, 11), 12))
        machine.advance()
        self.stands(machine, fun(10), (), (1, 6, 13), 13, {
            1: ("wait", 0, ()), 3: ("fun", 1, ()), 5: ("fun", 2, ()), 6: ("wind", fun(3), fun(5)), 10: ("fun", 5, ()),
            13: ("way", ("to", (1,), 0), ("give", 5))})
        machine.advance()
        self.stands(machine, fun(5), (), (1, 14), 14, {
            1: ("wait", 0, ()), 5: ("fun", 2, ()), 14: ("way", ("to", (1,), 0), ("give", 5))})
        machine.advance()
        self.assertEqual((machine.shown, machine.outcome), (("5",), ("end",)))

    def test_a_take_leaves_its_winds_topmost_first(self):
        text = "(mark (wind (fn () (show 1)) (wind (fn () (show 2)) (take k (do (show 9) (k 0))) (fn () (show 3))) (fn () (show 4))))"
        self.shows(text, "1", "2", "3", "4", "9", "1", "2", "3", "4")
        machine = self.machine("(mark (wind (fn () 1) (take k (k 5)) (fn () 2)))", 2)
        # 1 mark, 2 to 4 funs, 5 wind, 6 way, 7 the take's fun, 8 the piece, 9 the way frame.
        self.stands(machine, fun(4), (), (1, 9), 9, {
            1: ("mark",), 2: ("fun", 1, ()), 4: ("fun", 2, ()), 5: ("wind", fun(2), fun(4)), 7: ("fun", 4, ()), 8: ("piece", (5,)),
            9: ("way", ("off",), ("call", fun(7), (rest(8),)))})
        machine.advance()
        self.stands(machine, fun(7), (rest(8),), (1,), 9, {
            1: ("mark",), 2: ("fun", 1, ()), 4: ("fun", 2, ()), 5: ("wind", fun(2), fun(4)), 7: ("fun", 4, ()), 8: ("piece", (5,))})
        machine.advance()
        machine.advance()
        # The piece is laid on behind the new mark 10, its wind is entered on the road "on".
        self.stands(machine, fun(2), (), (1, 10, 11), 11, {
            1: ("mark",), 2: ("fun", 1, ()), 4: ("fun", 2, ()), 5: ("wind", fun(2), fun(4)), 10: ("mark",),
            11: ("way", ("on", (5,)), ("give", 5))})

    def test_winds_below_the_mark_are_not_left(self):
        self.shows("(wind (fn () (show 1)) (mark (take k (show 2))) (fn () (show 3)))", "1", "2", "3")

    def test_a_deed_that_goes_off(self):
        self.shows("(show (keep k (wind (fn () (k 1)) (show 2) (fn () (show 3)))))", "1")
        self.shows("(show (keep k (wind (fn () (show 0)) (show 2) (fn () (k 3)))))", "0", "2", "3")
        # A leave deed on the way out goes elsewhere: the first goal is forgotten.
        self.shows("""(let ((a none)) (show (keep j (do (set a j) (show (keep k
            (wind (fn () 1) (k 5) (fn () (a 6)))))))))""", "6")

    def test_a_piece_taken_amid_a_deed(self):
        # The road that waits in the piece goes on where it is laid.
        self.shows("""(let ((p none)) (mark (show (wind (fn () (take k (set p k))) (show 1) (fn () (show 2)))))
            (show 3) (p 0) (show 4) (p 0))""", "3", "1", "2", "1", "4", "1", "2", "1")


class Restored(Plain):
    TEXTS = (
        "(let ((r none) (n 0)) (wind (fn () (show 1)) (keep k (set r k)) (fn () (show (ask)))) (set n (+ n 1)) (if (< n 3) (r 0) n))",
        "(mark (show (+ 1 (take k (do (show (k 1)) (show (k (ask))))))))",
        "(rec ((f (fn (n) (if (< n 1) (show (ask)) (+ 1 (f (- n 1))))))) (show (f 5)))",
        "(let ((r none)) (show (once k (do (set r k) ((fn () 3))))) (r 4))",
        "(wind (fn () (show 1)) ((fn () (left (show 2)))) (fn () 3))",
    )

    def followed(self, machine):
        told = []
        while machine.outcome is None:
            told.append(machine.standing())
            machine.advance()
        return told

    def check(self, program, asks, fuel):
        machine = PlainMachine(program, asks, fuel)
        told, shown = [], []
        while machine.outcome is None:
            told.append(machine.standing())
            shown.append(machine.shown)
            machine.advance()
        for at, standing in enumerate(told):
            before = dict(vars(standing))
            other = PlainMachine.restored(program, list(asks), standing, fuel)
            self.assertIsInstance(other, PlainMachine)
            self.assertEqual((other.outcome, other.calls, other.asked, other.shown, other.copied),
                             (None, standing.calls, standing.asked, (), 0))
            self.assertEqual((other.asks, other.fuel), (tuple(asks), fuel))
            self.assertIs(other.program, program)
            self.assertEqual(self.followed(other), told[at:])
            self.assertEqual(shown[at] + other.shown, machine.shown)
            self.assertEqual((other.outcome, other.calls, other.asked), (machine.outcome, machine.calls, machine.asked))
            self.assertEqual(vars(standing), before)
            self.assertEqual(standing.shown, len(shown[at]))
        return len(told)

    def test_it_goes_on_just_as_the_machine_that_told_the_standing(self):
        for text in self.TEXTS:
            for fuel in (2000, 4):
                self.assertGreater(self.check(Program(text), (5, 6, 7), fuel), 1)

    def test_random_programs(self):
        calls = 0
        for seed in range(120):
            tree = good_tree(seed, deep=5, gentle=True)
            if tree is not None:
                calls += self.check(Program.of_tree(tree), (1, 2), 25)
        self.assertGreater(calls, 200)

    def test_neither_changes_the_other(self):
        program = Program("(let ((p (pair 1 2))) ((fn () 1)) (left! p 5) ((fn () 2)) (show p))")
        machine = PlainMachine(program)
        standing = machine.standing()
        one = PlainMachine.restored(program, (), standing)
        self.assertEqual(run_seen(one).shows, ("(5 2)",))
        self.assertEqual(machine.standing(), standing)
        other = PlainMachine.restored(program, (), standing)
        machine.advance()
        self.assertEqual(other.standing(), standing)
        self.assertEqual(dict(standing.things)[1], ("pair", 1, 2))
        self.assertEqual(run_seen(other).shows, ("(5 2)",))

    def test_a_standing_that_the_program_does_not_come_to(self):
        program = Program("(show 1)")
        machine = PlainMachine.restored(program, (), Standing(5, (), (), (), 0, 3, 0, 2))
        self.assertEqual((machine.outcome, machine.calls, machine.shown), (None, 3, ()))
        self.assertEqual(machine.standing(), Standing(5, (), (), (), 0, 3, 0, 2))
        machine.advance()
        self.assertEqual((machine.outcome, machine.calls), (("fault", "kind"), 4))
        machine = PlainMachine.restored(program, (), Standing(("rest", 1), (7,), (2,), ((1, ("keep", ())), (2, ("mark",))), 9, 0, 0, 0))
        machine.advance()
        self.assertEqual((machine.outcome, machine.shown), (("end",), ()))

    def test_defaults(self):
        program = Program("((fn () 1))")
        machine = PlainMachine.restored(program, (), PlainMachine(program).standing())
        self.assertEqual((machine.fuel, PlainMachine(program).fuel), (2000, 2000))

    def test_fuel_that_is_used_up(self):
        program = Program("((fn () 1)) ((fn () 2)) ((fn () 3))")
        machine = PlainMachine(program)
        machine.advance()
        machine.advance()
        other = PlainMachine.restored(program, (), machine.standing(), 2)
        self.assertIsNone(other.outcome)
        other.advance()
        self.assertEqual((other.outcome, other.calls), (("fuel",), 2))


class Reach(Plain):
    def test_only_what_is_reached(self):
        machine = self.machine("(let ((a (pair 1 2)) (b (pair 3 4))) (let ((c (pair a 5))) (1 c)))")
        self.stands(machine, 1, (("pair", 3),), (), 3, {1: ("pair", 1, 2), 3: ("pair", ("pair", 1), 5)})

    def test_rings(self):
        machine = self.machine("(let ((a (pair 1 2))) (let ((b (pair a 3))) (left! a b) (1 b)))")
        self.stands(machine, 1, (("pair", 2),), (), 2, {1: ("pair", ("pair", 2), 2), 2: ("pair", ("pair", 1), 3)})

    def test_thousands_in_a_chain(self):
        text = "(rec ((f (fn (n p) (if (= n 0) (1 p) (f (- n 1) (pair n p)))))) (f 1900 none))"
        machine = self.machine(text, 1901)
        standing = machine.standing()
        self.assertEqual((standing.callee, len(standing.things), standing.calls), (1, 1900, 1901))

    def test_thousands_of_frames(self):
        text = "(rec ((f (fn (n) (+ 1 (+ 1 (+ 1 (+ 1 (if (= n 0) (1) (f (- n 1)))))))))) (f 1500))"
        machine = self.machine(text, 1501)
        standing = machine.standing()
        # Each frame, and the fun that its env holds.
        self.assertEqual((len(standing.frames), len(standing.things)), (1501 * 4, 1501 * 4 + 1))
        self.shows("(rec ((f (fn (n) (+ 1 (+ 1 (+ 1 (+ 1 (if (= n 0) 0 (f (- n 1)))))))))) (show (f 1900)))", str(1901 * 4))

    def test_counts(self):
        machine = PlainMachine(Program("(show (ask)) ((fn () (show (ask)))) (ask) (1)"), (7, 8))
        standing = machine.standing()
        self.assertEqual((standing.calls, standing.asked, standing.shown, standing.born), (0, 1, 1, 2))
        machine.advance()
        standing = machine.standing()
        self.assertEqual((standing.calls, standing.asked, standing.shown), (1, 2, 2))

    def test_pairs_that_were_changed(self):
        machine = self.machine("(let ((a (pair 1 2)) (b (pair 3 4))) (left! a b) (right! b true) (1 a))")
        self.stands(machine, 1, (("pair", 1),), (), 2, {1: ("pair", ("pair", 2), 2), 2: ("pair", 3, ("true",))})

    def test_standing_again_tells_the_same(self):
        machine = self.machine("(keep k (wind (fn () 1) (k 2) (fn () 3)))", 2)
        self.assertEqual(machine.standing(), machine.standing())


if __name__ == "__main__":
    unittest.main()
