"""handovers.py: [14.8], [14.9]; [0.2]."""

import random
import unittest

from makeprograms import good_tree
from makestandings import EASY
from writtenprograms import FAULTS, TEXTS

from goonagain.compiler import compiled_code, turned_code
from goonagain.errors import BadKind, NoCall
from goonagain.handovers import handed_over
from goonagain.jumpcode import compiled_jumps
from goonagain.jumpmachine import JumpMachine
from goonagain.machine import run_seen
from goonagain.meaning import KINDS, made_machine
from goonagain.pilemachine import PileMachine
from goonagain.program import Program


class HandedOver(unittest.TestCase):
    def carried(self, program, asks, fuel, hand, start="plain"):
        """Runs beside the plain machine; hand gives the kinds to which the run is handed ahead of a call."""
        plain = made_machine("plain", program, asks, fuel)
        machine = made_machine(start, program, asks, fuel)
        texts = ()
        while True:
            self.assertEqual((texts + machine.shown, machine.outcome, machine.calls, machine.asked), (plain.shown, plain.outcome, plain.calls, plain.asked))
            self.assertEqual(machine.standing(), plain.standing())
            if plain.outcome is not None:
                return plain.calls
            for kind in hand(plain.calls):
                texts += machine.shown
                left = machine
                machine = handed_over(left, kind)
                self.assertEqual((machine.KIND, machine.shown, machine.outcome, machine.fuel, machine.asks), (kind, (), None, fuel, tuple(asks)))
                self.assertIs(machine.program, program)
                self.assertEqual((machine.standing(), left.standing()), (plain.standing(), plain.standing()))
                self.assertIsNot(machine, left)
            plain.advance()
            machine.advance()

    def test_between_each_two_kinds_ahead_of_each_call(self):
        for number, text in enumerate(TEXTS + EASY):
            program = Program(text)
            for one in KINDS:
                other = KINDS[(KINDS.index(one) + number) % 4]
                self.carried(program, (1, 2), 40, lambda calls: ((one, other)[calls % 2],), other)

    def test_each_two_kinds(self):
        program = Program(TEXTS[7])
        for one in KINDS:
            for other in KINDS:
                self.carried(program, (), 2000, lambda calls: (other, one), one)

    def test_several_ahead_of_one_call(self):
        chance = random.Random(2)
        for text in TEXTS:
            self.carried(Program(text), [5], 60, lambda calls: [chance.choice(KINDS) for _ in range(chance.choice((0, 0, 1, 2, 3)))])

    def test_faults_and_fuel(self):
        for text, _ in FAULTS:
            self.carried(Program(text), (), 2000, lambda calls: KINDS)
        for fuel in range(8):
            self.carried(Program(TEXTS[7]), (), fuel, lambda calls: (KINDS[calls % 4],))

    def test_random_programs(self):
        calls = 0
        for seed in range(400):
            tree = good_tree(seed, deep=5 + seed % 2, gentle=seed % 3 > 0)
            if tree is not None:
                chance = random.Random(seed)
                calls += self.carried(Program.of_tree(tree), (1, 2), 30, lambda at: [chance.choice(KINDS) for _ in range(chance.randint(0, 2))])
        self.assertGreater(calls, 1000)

    def test_the_machine_that_was_left(self):
        # It goes on by itself, and neither touches the other.
        program = Program("""(let ((p (pair 1 2)) (n 0)) (do (left! p p) ((fn () (right! p 7))) (show (right p)) (once k (do (left! p k) ((fn () 1))))
            (set n (+ n 1)) (show n) ((fn () 3)) (show (rest? (left p)))))""")
        due = run_seen(made_machine("plain", program)).shows
        for one in KINDS:
            for other in KINDS:
                left = made_machine(one, program)
                heirs = []
                while left.outcome is None:
                    standing = left.standing()
                    heir = handed_over(left, other)
                    self.assertEqual(left.standing(), standing)
                    heirs.append((len(left.shown), heir, standing))
                    left.advance()
                self.assertEqual(left.shown, due)
                for many, heir, standing in heirs:
                    self.assertEqual(heir.standing(), standing)
                    self.assertEqual(run_seen(heir).shows, due[many:])
                left = made_machine(one, program)
                heir = handed_over(left, other)
                run_seen(heir)
                self.assertEqual(left.standing(), made_machine("plain", program).standing())
                self.assertEqual(run_seen(left).shows, due)

    def test_other_code(self):
        # The heir runs its default code.
        program = Program(TEXTS[3])
        pile = PileMachine(program, code=turned_code(compiled_code(program), (1, 3, 5, 7)))
        heir = handed_over(pile, "pile")
        self.assertEqual(heir.code, compiled_code(program))
        self.assertEqual(run_seen(heir), run_seen(pile))
        heir = handed_over(JumpMachine(program), "jump")
        self.assertEqual((heir.code, heir.made), (compiled_jumps(program), 0))

    def test_bad_kind_comes_first(self):
        program = Program("(show 1)")
        for machine in (made_machine("plain", program), made_machine("jump", Program("((fn () 1))"))):
            for kind in ("", "PLAIN", None, 1, True, ("pile",), ["jump"]):
                with self.assertRaises(BadKind) as caught:
                    handed_over(machine, kind)
                self.assertEqual(caught.exception.kind, kind)

    def test_no_call(self):
        for kind in KINDS:
            for text, fuel, end in (("(show 1)", 9, ("end",)), ("(1)", 9, ("fault", "kind")), ("((fn () 1))", 0, ("fuel",))):
                machine = made_machine(kind, Program(text), (), fuel)
                run_seen(machine)
                for other in KINDS:
                    with self.assertRaises(NoCall) as caught:
                        handed_over(machine, other)
                    self.assertEqual(caught.exception.outcome, end)
        # At the last fuel it stands at a call still.
        machine = made_machine("pile", Program("((fn () 1))"), (), 0)
        self.assertEqual(run_seen(handed_over(machine, "pieces")).end, ("fuel",))

    def test_thousands_of_frames(self):
        program = Program("(rec ((f (fn (n) (+ 1 (+ 1 (+ 1 (+ 1 (if (= n 0) 0 (f (- n 1)))))))))) (show (f 1900)))")
        machine = made_machine("plain", program)
        for number in range(4):
            for _ in range(470):
                machine.advance()
            machine = handed_over(machine, KINDS[3 - number])
        self.assertEqual(run_seen(machine).shows, ("7604",))


if __name__ == "__main__":
    unittest.main()
