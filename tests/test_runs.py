"""runs.py: [16.1] to [16.6]."""

import random
import unittest

from makeplans import good_plan
from makeprograms import good_tree
from writtenprograms import FAULTS, TEXTS

from goonagain.catching import catching_shown, catching_text
from goonagain.choices import choices_shown, choices_text
from goonagain.errors import Ahead, BadAsks, BadCount, BadHandover, BadKind, BadStanding, Unfit
from goonagain.hands import hands_shown, hands_text
from goonagain.machine import run_seen
from goonagain.makers import makers_shown, makers_text
from goonagain.meaning import KINDS, made_machine
from goonagain.program import Program
from goonagain.readstand import read_standing
from goonagain.runs import Course, Leg, Run, run_course
from goonagain.standing import Standing
from goonagain.writestand import standing_text

BAD_KINDS = ("", "Plain", None, True, 1, ("pile",), ["jump"])
BAD_COUNTS = (True, False, -1, -10 ** 18, "1", None, 1.0, (1,))
# Shows its number and one more at each of its calls; 0 is shown ahead of the first call.
COUNTING = Program("(do (show 0) (rec ((f (fn (n) (if (< n 6) (do (show n) (show (+ n 10)) (f (+ n 1))) (show 99))))) (f 1)))")
LOOP = Program("(rec ((f (fn (n) (do (show n) (f (+ n 1)))))) (f (ask)))")
NO_CALL = Program("(show (+ 1 1)) (show 3)")


def told(run):
    return (run.machine, run.machine.calls, run.machine.outcome, run.seen, [vars(leg) for leg in run.legs], run.performed, run.written())


class Legs(unittest.TestCase):
    def test_equal_by_all_three(self):
        leg = Leg("plain", 3, 5)
        self.assertEqual((leg.kind, leg.first, leg.last), ("plain", 3, 5))
        self.assertEqual(leg, Leg("plain", 3, 5))
        for other in (Leg("pile", 3, 5), Leg("plain", 2, 5), Leg("plain", 3, 4), ("plain", 3, 5), None):
            self.assertNotEqual(leg, other)


class Runs(unittest.TestCase):
    def test_made(self):
        for kind in KINDS:
            run = Run(COUNTING, [4, 5], kind=kind, fuel=30)
            self.assertIs(run.program, COUNTING)
            self.assertEqual((run.machine.KIND, run.machine.asks, run.machine.fuel, run.machine.calls), (kind, (4, 5), 30, 0))
            self.assertEqual((run.seen, run.legs, run.performed), (("0",), (Leg(kind, 1, 0),), 0))
        run = Run(LOOP)
        self.assertEqual((run.machine.KIND, run.machine.asks, run.machine.fuel, run.seen), ("plain", (), 2000, ()))
        with self.assertRaises(TypeError):
            Run(LOOP, (), "pile")

    def test_bad_kind_then_bad_asks(self):
        for kind in BAD_KINDS:
            with self.assertRaises(BadKind) as caught:
                Run(LOOP, None, kind=kind)
            self.assertEqual(caught.exception.kind, kind)
        for kind in KINDS:
            with self.assertRaises(BadAsks) as caught:
                Run(LOOP, [1, True], kind=kind)
            self.assertEqual(caught.exception.index, 1)

    def test_go(self):
        for kind in KINDS:
            run = Run(COUNTING, kind=kind)
            self.assertEqual((run.go(0), run.machine.calls, run.seen), (0, 0, ("0",)))
            self.assertEqual((run.go(), run.machine.calls, run.seen), (1, 1, ("0", "1", "11")))
            self.assertEqual((run.go(2), run.machine.calls, run.seen), (2, 3, ("0", "1", "11", "2", "12", "3", "13")))
            self.assertEqual((run.go(many=1), run.legs, run.performed), (1, (Leg(kind, 1, 4),), 4))
            self.assertEqual((run.machine.outcome, run.go(10 ** 18), run.machine.outcome), (None, 2, ("end",)))
            self.assertEqual((run.seen[-1], run.machine.calls, run.performed, run.legs), ("99", 6, 6, (Leg(kind, 1, 6),)))
            for many in (0, 1, 5, 10 ** 18):
                self.assertEqual(run.go(many), 0)
            self.assertEqual((run.performed, len(run.seen)), (6, 12))

    def test_go_to_the_last_fuel(self):
        for kind in KINDS:
            run = Run(LOOP, [3], kind=kind, fuel=4)
            self.assertEqual((run.go(4), run.machine.outcome, run.machine.calls), (4, None, 4))
            self.assertIsNotNone(run.written())
            self.assertEqual((run.go(1), run.machine.outcome, run.seen, run.performed), (0, ("fuel",), ("3", "4", "5", "6"), 4))
            self.assertEqual((run.go(1), run.finish(), run.written()), (0, ("fuel",), None))
            run = Run(LOOP, kind=kind, fuel=0)
            self.assertEqual((run.go(0), run.machine.outcome, run.go(), run.machine.outcome), (0, None, 0, ("fuel",)))
            run = Run(LOOP, [3], kind=kind, fuel=4)
            self.assertEqual((run.go(9), run.machine.outcome), (4, ("fuel",)))

    def test_a_call_that_ends_with_a_fault_is_performed(self):
        for text, word in FAULTS:
            program = Program(text)
            due = made_machine("plain", program)
            run_seen(due)
            run = Run(program)
            self.assertEqual((run.go(99), run.machine.outcome, run.seen, run.performed), (due.calls, ("fault", word), due.shown, due.calls))

    def test_two_thousand_calls_by_default(self):
        for kind in KINDS:
            run = Run(LOOP, [0], kind=kind)
            self.assertEqual((run.go(10 ** 18), run.machine.outcome, len(run.seen)), (2000, ("fuel",), 2000))

    def test_finish(self):
        for kind in KINDS:
            run = Run(COUNTING, kind=kind)
            run.go(2)
            self.assertEqual((run.finish(), len(run.seen), run.legs), (("end",), 12, (Leg(kind, 1, 6),)))
            self.assertEqual((run.finish(), run.seen), (("end",), run.seen))
        run = Run(NO_CALL)
        self.assertEqual((run.finish(), run.seen, run.legs, run.go(5), run.performed), (("end",), ("2", "3"), (Leg("plain", 1, 0),), 0, 0))

    def test_bad_counts(self):
        run = Run(COUNTING)
        run.go(2)
        before = told(run)
        for many in BAD_COUNTS:
            with self.assertRaises(BadCount) as caught:
                run.go(many)
            self.assertIs(caught.exception.many, many)
            self.assertEqual(told(run), before)
        run.finish()
        self.assertRaises(BadCount, run.go, True)

    def test_written(self):
        run = Run(COUNTING, kind="pieces")
        for _ in range(6):
            text = run.written()
            self.assertEqual(text, standing_text(run.machine.standing()))
            self.assertEqual((run.written(), run.legs), (text, (Leg("pieces", 1, run.machine.calls),)))
            run.go()
        self.assertIsNone(run.written())

    def test_what_is_told_is_new_each_time(self):
        run = Run(COUNTING)
        seen, legs = run.seen, run.legs
        run.go(3)
        self.assertEqual((seen, legs), (("0",), (Leg("plain", 1, 0),)))
        self.assertIsInstance(run.legs, tuple)
        self.assertIsInstance(run.seen, tuple)


class Hand(unittest.TestCase):
    def test_at_a_call(self):
        run = Run(COUNTING)
        run.go(2)
        old, text = run.machine, run.written()
        self.assertEqual(run.hand("jump"), text)
        self.assertEqual((run.machine.KIND, run.machine.calls, run.machine.shown, run.machine.fuel), ("jump", 2, (), 2000))
        self.assertEqual((run.legs, run.performed, len(run.seen)), ((Leg("plain", 1, 2), Leg("jump", 3, 2)), 2, 5))
        run.go(3)
        self.assertEqual(run.legs, (Leg("plain", 1, 2), Leg("jump", 3, 5)))
        # The old machine goes on by itself, unseen.
        old.advance()
        self.assertEqual((run.machine.calls, run.seen[-1]), (5, "15"))
        # Each handover begins a leg, also to the same kind, and with no call between.
        run.hand("jump")
        run.hand("pile")
        self.assertEqual(run.finish(), ("end",))
        self.assertEqual(run.legs, (Leg("plain", 1, 2), Leg("jump", 3, 5), Leg("jump", 6, 5), Leg("pile", 6, 6)))
        self.assertEqual((run.seen, run.performed), (run_seen(made_machine("plain", COUNTING)).shows, 6))

    def test_asks_and_fuel_go_over(self):
        run = Run(LOOP, [7, 8], kind="pile", fuel=3)
        for kind in KINDS:
            run.hand(kind)
            self.assertEqual((run.machine.asks, run.machine.fuel, run.machine.asked), ((7, 8), 3, 1))
        run.go(3)
        run.hand("plain")
        self.assertEqual((run.machine.outcome, run.finish(), run.seen), (None, ("fuel",), ("7", "8", "9")))

    def test_at_an_outcome(self):
        run = Run(COUNTING)
        run.finish()
        before = told(run)
        for kind in KINDS:
            self.assertIsNone(run.hand(kind))
        self.assertEqual(told(run), before)
        self.assertIsNone(Run(NO_CALL).hand("pile"))

    def test_bad_kind_comes_first(self):
        for calls in (2, 99):
            run = Run(COUNTING)
            run.go(calls)
            before = told(run)
            for kind in BAD_KINDS:
                with self.assertRaises(BadKind) as caught:
                    run.hand(kind)
                self.assertEqual(caught.exception.kind, kind)
                self.assertEqual(told(run), before)


class Settle(unittest.TestCase):
    def texts(self):
        """The texts of the standings of a run at each call."""
        run = Run(COUNTING)
        found = []
        while run.written() is not None:
            found.append(run.written())
            run.go()
        return found

    def test_behind(self):
        texts = self.texts()
        for at in range(5):
            for kind in KINDS:
                run = Run(COUNTING)
                run.go(4)
                seen = run.seen
                self.assertIsNone(run.settle(texts[at], kind))
                self.assertEqual((run.machine.KIND, run.machine.calls, run.seen, run.performed), (kind, at, seen, 4))
                # Nothing is seen twice.
                run.go(1)
                self.assertEqual(run.seen, seen if at < 4 else seen + ("5", "15"))
                self.assertEqual(run.finish(), ("end",))
                self.assertEqual(run.seen, run_seen(made_machine("plain", COUNTING)).shows)
                self.assertEqual((run.legs, run.performed), ((Leg("plain", 1, 4), Leg(kind, at + 1, 6)), 4 + 6 - at))

    def test_at_an_outcome(self):
        texts = self.texts()
        run = Run(COUNTING, kind="pile")
        run.finish()
        run.settle(texts[2], "pieces")
        self.assertEqual((run.machine.outcome, run.machine.calls, len(run.seen)), (None, 2, 12))
        self.assertEqual((run.finish(), len(run.seen), run.performed), (("end",), 12, 10))
        self.assertEqual(run.legs, (Leg("pile", 1, 6), Leg("pieces", 3, 6)))

    def test_part_of_what_is_ahead(self):
        # Settled on behind, the run sees just the texts whose numbers are new.
        texts = self.texts()
        run = Run(COUNTING)
        run.go(3)
        run.settle(texts[1], "jump")
        run.go(3)
        self.assertEqual((run.machine.calls, run.seen[-3:]), (4, ("13", "4", "14")))
        run.settle(texts[0], "plain")
        run.go(2)
        run.settle(texts[4], "pile")
        run.finish()
        self.assertEqual(run.seen, run_seen(made_machine("plain", COUNTING)).shows)
        self.assertEqual(run.legs, (Leg("plain", 1, 3), Leg("jump", 2, 4), Leg("plain", 1, 2), Leg("pile", 5, 6)))
        self.assertEqual(run.performed, 3 + 3 + 2 + 2)

    def test_ahead(self):
        texts = self.texts()
        for calls in range(5):
            run = Run(COUNTING)
            run.go(calls)
            before = told(run)
            with self.assertRaises(Ahead) as caught:
                run.settle(texts[calls + 1], "jump")
            self.assertEqual(caught.exception.shown, 2 * calls + 3)
            self.assertEqual(told(run), before)
        # Ahead by calls alone is not ahead.
        quiet = Program("(rec ((f (fn (n) (if (< n 6) (f (+ n 1)) (show n))))) (f 0))")
        run, other = Run(quiet), Run(quiet)
        other.go(4)
        run.settle(other.written(), "pile")
        self.assertEqual((run.machine.calls, run.performed, run.legs), (4, 0, (Leg("plain", 1, 0), Leg("pile", 5, 4))))
        self.assertEqual((run.finish(), run.seen), (("end",), ("6",)))

    def test_errors_in_their_order(self):
        texts = self.texts()
        ahead = read_standing(texts[4])
        unfit = Standing(ahead.callee, ahead.handed, ahead.frames, ahead.things + ((99, ("mark",)),), 99, 4, 0, 9)
        far = Standing(ahead.callee, ahead.handed, ahead.frames, ahead.things, 99, 2001, 0, 3)
        for calls in (2, 99):
            run = Run(COUNTING)
            run.go(2)
            run.go(calls - 2)
            before = told(run)
            for kind in BAD_KINDS:
                for text in ("", texts[4], standing_text(unfit), texts[0]):
                    self.assertRaises(BadKind, run.settle, text, kind)
            for text, place, what in (("", 1, "head"), (texts[4] + "\n", len(texts[4].split("\n")) + 1, "thing"), ("standing\ncounts 0 0 9 x", 2, "counts")):
                with self.assertRaises(BadStanding) as caught:
                    run.settle(text, "pile")
                self.assertEqual((caught.exception.place, caught.exception.what), (place, what))
            with self.assertRaises(Unfit) as caught:
                run.settle(standing_text(far), "pile")
            self.assertEqual((caught.exception.word, caught.exception.birth), ("counts", 0))
            if calls == 2:
                # The run has seen 5 texts: the standing that is not well, too, is ahead.
                with self.assertRaises(Ahead) as caught:
                    run.settle(standing_text(unfit), "pile")
                self.assertEqual(caught.exception.shown, 9)
            else:
                with self.assertRaises(Unfit) as caught:
                    run.settle(standing_text(unfit), "pile")
                self.assertEqual((caught.exception.word, caught.exception.birth), ("reached", 99))
            self.assertEqual(told(run), before)


class Courses(unittest.TestCase):
    def course(self, program, asks=(), handovers=(), start="plain", fuel=2000):
        course = run_course(program, asks, handovers, start=start, fuel=fuel)
        due = made_machine("plain", program, asks, fuel)
        run_seen(due)
        self.assertIsInstance(course, Course)
        self.assertEqual((course.shows, course.end, course.calls), (due.shown, due.outcome, due.calls))
        # The legs by the handovers that the run comes to: the last fuel is come to at a call, an outcome is not.
        legs, first, kind = [], 1, start
        for calls, other in handovers:
            if calls < due.calls or calls == due.calls and due.outcome == ("fuel",):
                legs.append(Leg(kind, first, calls))
                first, kind = calls + 1, other
        self.assertEqual(course.legs_done, tuple(legs) + (Leg(kind, first, due.calls),))
        self.assertEqual(len(course.texts), len(legs))
        for text, leg in zip(course.texts, legs):
            self.assertEqual(read_standing(text).calls, leg.last)
        return course

    def test_what_it_keeps(self):
        course = Course(1, 2, 3, 4, 5)
        self.assertEqual((course.shows, course.end, course.calls, course.legs_done, course.texts), (1, 2, 3, 4, 5))

    def test_none(self):
        for kind in KINDS:
            course = self.course(COUNTING, start=kind)
            self.assertEqual((course.texts, course.legs_done), ((), (Leg(kind, 1, 6),)))
        course = run_course(COUNTING)
        self.assertEqual((course.texts, course.legs_done, course.end), ((), (Leg("plain", 1, 6),), ("end",)))
        course = run_course(LOOP, [0])
        self.assertEqual((course.calls, course.end, len(course.shows)), (2000, ("fuel",), 2000))

    def test_handovers(self):
        course = self.course(COUNTING, (), [(0, "jump"), (2, "pile"), (2, "pile"), (2, "plain"), (5, "pieces")], "pieces")
        run = Run(COUNTING)
        due = []
        for calls in (0, 2, 3):
            run.go(calls)
            due.append(run.written())
        self.assertEqual(course.texts, (due[0], due[1], due[1], due[1], due[2]))
        self.course(COUNTING, [], ((3, "pile"),))

    def test_those_that_the_run_does_not_come_to(self):
        # The last call is the sixth: behind it stands the outcome.
        course = self.course(COUNTING, (), [(5, "pile"), (6, "jump"), (7, "jump"), (10 ** 18, "plain")])
        self.assertEqual((course.legs_done, len(course.texts)), ((Leg("plain", 1, 5), Leg("pile", 6, 6)), 1))
        self.course(NO_CALL, (), [(0, "pile")])
        for text, _ in FAULTS:
            self.course(Program(text), (), [(0, "jump"), (0, "pile"), (1, "pieces"), (2, "plain"), (3, "jump"), (9, "pile")])

    def test_at_fuel(self):
        course = self.course(LOOP, [5], [(3, "pile"), (4, "jump"), (4, "pieces"), (5, "plain")], fuel=4)
        self.assertEqual(course.legs_done, (Leg("plain", 1, 3), Leg("pile", 4, 4), Leg("jump", 5, 4), Leg("pieces", 5, 4)))
        self.assertEqual((len(course.texts), course.end), (3, ("fuel",)))
        self.course(LOOP, [5], [(0, "pile"), (1, "jump")], fuel=0)
        self.course(LOOP, [5], [(1999, "pile"), (2000, "jump"), (2001, "pieces")])

    def test_bad_handovers(self):
        good = (1, "pile")
        for bad in (None, 1, "pile", (), (1,), (1, "pile", 2), [1, "pile"], ("1", "pile"), (True, "pile"), (False, "pile"), (-1, "pile"), (1.0, "pile"), (1, "Pile"), (1, None), (1, ["pile"]),
                    (None, "pile")):
            for at in range(3):
                handovers = [good] * at + [bad, (0, "no")]
                for kind, asks in (("plain", ()), ("no", None)):
                    with self.assertRaises(BadHandover) as caught:
                        run_course(COUNTING, asks, handovers, start=kind)
                    self.assertEqual(caught.exception.index, at)
        for handovers, index in (([(2, "pile"), (1, "pile")], 1), ([(0, "pile"), (0, "pile"), (5, "jump"), (5, "jump"), (4, "jump")], 4), (((10 ** 18, "pile"), (0, "pile")), 1)):
            with self.assertRaises(BadHandover) as caught:
                run_course(COUNTING, (), handovers)
            self.assertEqual(caught.exception.index, index)

    def test_bad_handover_ahead_of_bad_kind_ahead_of_bad_asks(self):
        with self.assertRaises(BadKind) as caught:
            run_course(COUNTING, None, [(1, "pile")], start="Pile")
        self.assertEqual(caught.exception.kind, "Pile")
        with self.assertRaises(BadAsks) as caught:
            run_course(COUNTING, [0, True], [(1, "pile")], start="pile")
        self.assertEqual(caught.exception.index, 1)
        with self.assertRaises(TypeError):
            run_course(COUNTING, (), (), "pile")

    def test_written_programs(self):
        chance = random.Random(9)
        for text in TEXTS:
            program = Program(text)
            for fuel in (3, 2000):
                handovers = sorted((chance.randint(0, 12), chance.choice(KINDS)) for _ in range(chance.randint(0, 8)))
                self.course(program, (1, 2), handovers, chance.choice(KINDS), fuel)

    def test_random_programs(self):
        for seed in range(250):
            tree = good_tree(seed, deep=6, gentle=seed % 3 > 0)
            if tree is not None:
                chance = random.Random(seed)
                handovers = sorted((chance.randint(0, 9), chance.choice(KINDS)) for _ in range(chance.randint(0, 12)))
                self.course(Program.of_tree(tree), (3,), handovers, chance.choice(KINDS), chance.choice((0, 2, 6, 40)))

    def test_recipes(self):
        """[15.3] under handovers."""
        for recipe, text_of, shown_of in (("choices", choices_text, choices_shown), ("choices", lambda plan: choices_text(plan, whole=True), choices_shown),
                                          ("makers", makers_text, makers_shown), ("catching", catching_text, catching_shown), ("hands", hands_text, hands_shown)):
            for seed in range(12):
                chance = random.Random(seed)
                plan = good_plan(recipe, seed + 500, 0.9)
                handovers = sorted((chance.randint(0, 60), chance.choice(KINDS)) for _ in range(40))
                course = self.course(Program(text_of(plan)), (), handovers, chance.choice(KINDS))
                if course.end == ("end",):
                    self.assertEqual(course.shows, shown_of(plan))


if __name__ == "__main__":
    unittest.main()
