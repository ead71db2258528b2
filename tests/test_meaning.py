"""meaning.py: [13.1], [13.9] to [13.11]; [3.7] for each kind."""

import copy
import unittest

from makestandings import EASY, well_standing
from writtenprograms import FAULTS, TEXTS

from goonagain.errors import BadAsks, BadKind, Unfit
from goonagain.jumpmachine import JumpMachine
from goonagain.machine import run_seen
from goonagain.meaning import KINDS, Stepped, made_machine, restored_machine, stepped
from goonagain.piecesmachine import PiecesMachine
from goonagain.pilemachine import PileMachine
from goonagain.plain import PlainMachine
from goonagain.program import Program
from goonagain.standfault import standing_fault
from goonagain.standing import Standing

BAD_KINDS = ("", "Plain", "plain ", "walker", None, True, 0, ("plain",), ["pile"], b"plain")
LOOP = "(rec ((f (fn (n) (do (show n) (f (+ n 1)))))) (f (ask)))"


class Kinds(unittest.TestCase):
    def test_kinds(self):
        self.assertEqual(KINDS, ("plain", "pile", "pieces", "jump"))
        self.assertIsInstance(KINDS, tuple)

    def test_made(self):
        program = Program(LOOP)
        for kind, of in zip(KINDS, (PlainMachine, PileMachine, PiecesMachine, JumpMachine)):
            machine = made_machine(kind, program, [4, 5], 7)
            self.assertIs(type(machine), of)
            self.assertEqual((machine.KIND, machine.asks, machine.fuel, machine.calls, machine.asked, machine.outcome), (kind, (4, 5), 7, 0, 1, None))
            self.assertIs(machine.program, program)
            machine = made_machine(kind, program)
            self.assertEqual((machine.asks, machine.fuel), ((), 2000))
            machine = made_machine(kind, Program("(show 1)"), fuel=0)
            self.assertEqual((machine.outcome, machine.shown), (("end",), ("1",)))
            machine = restored_machine(kind, program, [4, 5], made_machine("plain", program, (4, 5)).standing(), 9)
            self.assertIs(type(machine), of)
            self.assertEqual((machine.KIND, machine.asks, machine.fuel, machine.calls, machine.asked, machine.shown), (kind, (4, 5), 9, 0, 1, ()))
            self.assertEqual(restored_machine(kind, program, (4,), made_machine("plain", program, (4,)).standing()).fuel, 2000)

    def test_two_thousand_calls_by_default(self):
        program = Program(LOOP)
        for kind in KINDS:
            machine = made_machine(kind, program, (0,))
            seen = run_seen(machine)
            self.assertEqual((machine.calls, seen.end, len(seen.shows)), (2000, ("fuel",), 2000))
            standing = made_machine(kind, program, (0,)).standing()
            machine = restored_machine(kind, program, (0,), standing)
            self.assertEqual((run_seen(machine).end, machine.calls), (("fuel",), 2000))

    def test_bad_kind_comes_first(self):
        program = Program(LOOP)
        standing = made_machine("plain", program).standing()
        spoilt = Standing(1, (), (), (), 0, -1, 0, 0)
        for kind in BAD_KINDS:
            for call in (lambda: made_machine(kind, program), lambda: made_machine(kind, program, None), lambda: made_machine(kind, program, [True]),
                         lambda: restored_machine(kind, program, (), standing), lambda: restored_machine(kind, program, (), spoilt),
                         lambda: stepped(kind, program, (), standing), lambda: stepped(kind, program, (), spoilt, 0)):
                with self.assertRaises(BadKind) as caught:
                    call()
                self.assertEqual(caught.exception.kind, kind)

    def test_bad_asks(self):
        program = Program(LOOP)
        for kind in KINDS:
            for asks, index in ((None, 0), ([1, True], 1), ([0] * 41, 40), ((10 ** 9 + 1,), 0)):
                with self.assertRaises(BadAsks) as caught:
                    made_machine(kind, program, asks)
                self.assertEqual(caught.exception.index, index)

    def test_unfit(self):
        program = Program(LOOP)
        good = made_machine("plain", program, (4,)).standing()
        for parts, fault in (
            ({"calls": 2001}, ("counts", 0)), ({"asked": 2}, ("counts", 0)), ({"things": ((3, ("mark",)), (2, ("mark",))), "born": 5}, ("birth", 2)),
            ({"things": ((1, ("fun", 9, ())),)}, ("thing", 1)), ({"callee": ("rest", 1)}, ("value", 0)), ({"frames": (1,)}, ("frame", 0)),
            ({"things": good.things + ((9, ("mark",)),), "born": 9}, ("reached", 9)),
        ):
            told = dict(vars(good))
            told.update(parts)
            standing = Standing(**told)
            self.assertEqual(standing_fault(program, (4,), standing), fault)
            for kind in KINDS:
                for call in (lambda: restored_machine(kind, program, (4,), standing), lambda: stepped(kind, program, (4,), standing),
                             lambda: stepped(kind, program, [4], standing, 0)):
                    with self.assertRaises(Unfit) as caught:
                        call()
                    self.assertEqual((caught.exception.word, caught.exception.birth), fault)


class Steps(unittest.TestCase):
    def test_what_it_keeps(self):
        step = Stepped("s", ("end",), ("1",))
        self.assertEqual((step.standing, step.outcome, step.shown), ("s", ("end",), ("1",)))

    def step(self, kind, program, asks, standing, fuel=2000):
        kept = copy.deepcopy(vars(standing))
        step = stepped(kind, program, asks, standing, fuel)
        self.assertIsInstance(step, Stepped)
        self.assertEqual(vars(standing), kept)
        return (step.standing, step.outcome, step.shown)

    def test_one_call(self):
        program = Program("(do (show 1) ((fn (x) (do (show x) (show 3))) 2) ((fn () 4)) (show 5))")
        for kind in KINDS:
            machine = made_machine("plain", program)
            standing = machine.standing()
            machine.advance()
            self.assertEqual(self.step(kind, program, (), standing), (machine.standing(), None, ("2", "3")))
            # At the last call: no standing, the outcome, and the texts of this call alone.
            self.assertEqual(self.step(kind, program, (), machine.standing()), (None, ("end",), ("5",)))

    def test_faults(self):
        for text, word in FAULTS:
            program = Program(text)
            machine = made_machine("plain", program)
            while machine.outcome is None:
                standing, before = machine.standing(), machine.shown
                machine.advance()
                for kind in KINDS:
                    self.assertEqual(self.step(kind, program, (), standing), (machine.standing(), machine.outcome, machine.shown[len(before):]), text)

    def test_fuel(self):
        program = Program(LOOP)
        machine = made_machine("plain", program, (3,))
        for _ in range(5):
            machine.advance()
        standing = machine.standing()
        for kind in KINDS:
            for fuel in (0, 4, 5):
                self.assertEqual(self.step(kind, program, (3,), standing, fuel), (None, ("fuel",), ()))
            after, outcome, shown = self.step(kind, program, (3,), standing, 6)
            self.assertEqual((after.calls, after.shown, outcome, shown), (6, 6, None, ("8",)))
            self.assertEqual(self.step(kind, program, (3,), standing)[2], ("8",))
        last = Standing(standing.callee, standing.handed, standing.frames, standing.things, standing.born, 2000, 1, 5)
        for kind in KINDS:
            step = stepped(kind, program, (3,), last)
            self.assertEqual((step.standing, step.outcome, step.shown), (None, ("fuel",), ()))

    def test_runs_step_by_step_on_all_kinds(self):
        for number, text in enumerate(TEXTS):
            program = Program(text)
            machine = made_machine("plain", program, (1, 2), 60)
            while machine.outcome is None:
                standing, before = machine.standing(), machine.shown
                machine.advance()
                for kind in KINDS:
                    self.assertEqual(self.step(kind, program, (1, 2), standing, 60), (machine.standing(), machine.outcome, machine.shown[len(before):]))


class GoOnAlike(unittest.TestCase):
    def alike(self, program, asks, standing, most):
        """Whether the four machines go on alike, each of them made anew at some of the calls; how many calls that were."""
        machines = [restored_machine(kind, program, asks, standing, 2000) for kind in KINDS]
        for number in range(most):
            told = [machine.standing() for machine in machines]
            self.assertEqual(told, [told[0]] * 4)
            if told[0] is None:
                return number
            self.assertIsNone(standing_fault(program, asks, told[0]))
            machines[number % 4] = restored_machine(KINDS[number % 4], program, asks, told[0], 2000)
            shown = [len(machine.shown) for machine in machines]
            for machine in machines:
                machine.advance()
            news = [machine.shown[many:] for machine, many in zip(machines, shown)]
            self.assertEqual(news, [news[0]] * 4)
            ends = [(machine.outcome, machine.calls, machine.asked) for machine in machines]
            self.assertEqual(ends, [ends[0]] * 4)
        return most

    def test_first_standing(self):
        program = Program(EASY[0])
        for seed in range(30):
            standing = well_standing(program, (), seed)
            for kind in KINDS:
                self.assertEqual(restored_machine(kind, program, (), standing).standing(), standing)

    def test_standings_that_no_run_comes_to(self):
        calls = 0
        for seed in range(900):
            texts = EASY if seed % 3 else TEXTS
            program = Program(texts[seed % len(texts)])
            calls += self.alike(program, (4, 5), well_standing(program, (4, 5), seed, most=6 + seed % 20), 12)
        self.assertGreater(calls, 1500)

    def test_counts_of_standings(self):
        # Great counts, and gaps between births.
        program = Program("(show (pair 1 (keep k (k 5))))")
        standing = Standing(("rest", 10 ** 8), (5,), (7,), ((7, ("wait", 0, ())), (10 ** 8, ("keep", (7,)))), 10 ** 9 - 5, 1500, 0, 10 ** 9 - 1)
        self.assertIsNone(standing_fault(program, (), standing))
        self.assertEqual(self.alike(program, (), standing, 9), 1)


if __name__ == "__main__":
    unittest.main()
