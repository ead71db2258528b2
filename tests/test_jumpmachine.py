"""jumpmachine.py: [11.2], [12.3], [12.4], beside the plain machine."""

import random
import unittest

from makecodes import with_dead_cells, with_gaps, with_parts_mixed
from makeprograms import good_tree
from makestandings import EASY, well_standing
from writtenprograms import FAULTS, TEXTS

from goonagain.errors import BadAsks, BadJumps
from goonagain.jumpcode import JumpCode, compiled_jumps
from goonagain.jumpmachine import JumpMachine
from goonagain.jumptext import jump_text, read_jumps
from goonagain.machine import Machine, Seen, run_seen
from goonagain.plain import PlainMachine
from goonagain.program import Program
from goonagain.rests import Chain, MarkRecord, Record, chain_frames
from goonagain.standing import Standing, reached

END = ("end",)
FRAME_WORDS = ("wait", "mark", "pass", "wind", "way")


class Counting(PlainMachine):
    """A plain machine that counts the frames that are born."""

    def __init__(self, program, asks=(), fuel=2000):
        self.frames_born = 0
        super().__init__(program, asks, fuel)

    def _make(self, thing):
        self.frames_born += thing[0] in FRAME_WORDS
        return super()._make(thing)


class Jump(unittest.TestCase):
    def beside(self, program, asks=(), fuel=2000, code=None, at=None):
        """Runs both machines beside one another; at is how often a jump machine is made anew from a standing."""
        plain, jump = Counting(program, asks, fuel), JumpMachine(program, asks, fuel, code=code)
        made = before = 0
        while True:
            told = (plain.calls, plain.outcome, plain.asked, plain.shown[before:])
            self.assertEqual((jump.calls, jump.outcome, jump.asked, jump.shown), told)
            standing = plain.standing()
            self.assertEqual(jump.standing(), standing)
            self.assertEqual((jump.copied, jump.made), (0, plain.frames_born - made))
            if plain.outcome is not None:
                return plain.calls
            things = dict(standing.things)
            self.assertEqual(chain_frames(jump.chain), tuple((birth, things[birth]) for birth in standing.frames))
            if at and plain.calls % at == 0:
                # From the plain machine's standing, and from another jump machine's.
                source = plain if plain.calls % 2 else jump
                jump = JumpMachine.restored(program, asks, source.standing(), fuel, code=code)
                made, before = plain.frames_born, len(plain.shown)
                self.assertEqual((jump.standing(), jump.made, jump.copied, jump.shown), (standing, 0, 0, ()))
                self.assertEqual(chain_frames(jump.chain), tuple((birth, things[birth]) for birth in standing.frames))
            plain.advance()
            jump.advance()


class Beside(Jump):
    def test_written_programs(self):
        for text in TEXTS + EASY:
            program = Program(text)
            for asks in ((), [1, -2, 5]):
                self.beside(program, asks, 300)
            self.beside(program, (3,), 60, at=1)
            self.beside(program, (3,), 60, at=3)

    def test_every_fuel(self):
        for text in TEXTS:
            program = Program(text)
            for fuel in range(12):
                self.beside(program, (4, 5), fuel)

    def test_faults_of_every_word(self):
        for text, word in FAULTS:
            program = Program(text)
            self.assertEqual(run_seen(JumpMachine(program)).end, ("fault", word), text)
            self.beside(program, at=1)

    def test_random_programs(self):
        calls = 0
        ends = {}
        for seed in range(700):
            tree = good_tree(seed, deep=5 + seed % 2, gentle=seed % 3 > 0)
            if tree is not None:
                program = Program.of_tree(tree)
                calls += self.beside(program, (1, 2), (3, 15, 50)[seed % 3], at=(0, 1, 2, 5)[seed % 4])
                ends[run_seen(JumpMachine(program, (1, 2), 50)).end] = True
        self.assertGreater(calls, 2000)
        self.assertIn(END, ends)
        self.assertIn(("fuel",), ends)
        self.assertIn(("fault", "once"), ends)

    def test_standings_that_no_run_comes_to(self):
        for seed in range(400):
            program = Program((EASY + TEXTS[:14])[seed % (len(EASY) + 14)])
            standing = well_standing(program, (7,), seed)
            plain, jump = PlainMachine.restored(program, (7,), standing, 60), JumpMachine.restored(program, (7,), standing, 60)
            while plain.outcome is None and plain.calls < standing.calls + 12:
                self.assertEqual(jump.standing(), plain.standing())
                self.assertEqual(tuple(birth for birth, _ in chain_frames(jump.chain)), plain.standing().frames)
                plain.advance()
                jump.advance()
            self.assertEqual((jump.outcome, jump.calls, jump.shown), (plain.outcome, plain.calls, plain.shown))

    def test_thousands_of_frames(self):
        for text in (
            "(rec ((f (fn (n) (+ 1 (+ 1 (+ 1 (+ 1 (+ 1 (if (= n 0) 0 (f (- n 1))))))))))) (show (f 1900)))",
            "(rec ((f (fn (n) (mark (+ 1 (mark (+ 1 (if (= n 0) 0 (f (- n 1)))))))))) (show (f 1900)))",
            "(keep k (rec ((f (fn (n) (wind (fn () 1) (if (= n 0) (k 1) (f (- n 1))) (fn () 2))))) (show (f 480))))",
            "(rec ((f (fn (n) (if (< n 1) (keep k (fn () (k (fn () n)))) ((fn (x) x) (f (- n 1))))))) (((f 600))))",
            "(mark (rec ((f (fn (n) (+ 1 (if (= n 0) (take k (+ (k 0) (k 5))) (f (- n 1))))))) (show (f 1900))))",
            "(rec ((f (fn (n) (keep k (+ 1 (+ 1 (if (= n 0) 0 (f (- n 1)))))))) ) (show (f 500)))",
        ):
            program = Program(text)
            plain, jump = PlainMachine(program), JumpMachine(program)
            while plain.outcome is None:
                if plain.calls % 400 == 0:
                    self.assertEqual(jump.standing(), plain.standing())
                    jump = JumpMachine.restored(program, (), jump.standing())
                plain.advance()
                jump.advance()
            self.assertEqual((jump.outcome, jump.calls), (plain.outcome, plain.calls))
            self.assertEqual(run_seen(JumpMachine(program)), run_seen(PlainMachine(program)))


class OtherCode(Jump):
    def test_codes_that_are_put_together_otherwise(self):
        chance = random.Random(12)
        for text in TEXTS + EASY:
            program = Program(text)
            code = compiled_jumps(program)
            for other in (with_gaps(code, chance), with_parts_mixed(code, chance), with_dead_cells(program, chance),
                          with_parts_mixed(with_gaps(with_dead_cells(program, chance), chance), chance)):
                machine = JumpMachine(program, (1,), 60, code=other)
                self.assertEqual(machine.code, other)
                self.beside(program, (1, 2), 40, code=other, at=chance.choice((0, 1, 4)))

    def test_a_code_read_back_from_its_listing(self):
        for text in TEXTS[:20]:
            program = Program(text)
            self.beside(program, (1, 2), 40, code=read_jumps(jump_text(compiled_jumps(program))), at=2)

    def test_a_written_code(self):
        program = Program("(+ 1 (keep k (k 5)))")
        code = JumpCode((
            ("mark",), ("copy", 2, 1), ("copy", 3, 0), ("op", 1, "+", (3, 2)), ("copy", 0, 1), ("jump", 7), ("back", -4), ("back", 0),
            ("value", 0, 1), ("value", 1, 77), ("save", 0), ("keep", 2), ("value", 3, 5), ("copy", 4, 2), ("copy", 5, 4), ("call", 5, (3,))),
            (8,), (1,))
        machine = JumpMachine(program, code=code)
        self.assertEqual(machine.standing(), PlainMachine(program).standing())
        # The frame bears as many cells as its place is wide: not the dead one.
        self.assertEqual(dict(machine.standing().things)[1], ("wait", 0, (1,)))
        self.beside(program, code=code, at=1)

    def test_dropped_cells(self):
        # Cell 0 is written over when nothing reads it any more: the rest and the frame stay as they were.
        program = Program("(+ 1 (keep k (do (k 5) (k 6))))")
        self.assertEqual(compiled_jumps(program).rows[:4], (("value", 0, 1), ("save", 0), ("keep", 1), ("save", 1)))
        code = JumpCode((
            ("value", 0, 1), ("save", 0), ("keep", 1), ("save", 1), ("copy", 0, 1), ("value", 1, 5), ("call", 0, (1,)),
            ("op", 0, "+", (0, 1)), ("back", 0), ("value", 0, 6), ("value", 0, 6), ("copy", 0, 0), ("call", 0, (0,))), (0,), (7, 9))
        with self.assertRaises(BadJumps) as caught:
            JumpMachine(program, code=code)
        self.assertEqual(caught.exception.fault, ("step", 12))
        rows = code.rows[:9] + (("value", 0, 6), ("copy", 1, 0), ("call", 1, (0,)))
        with self.assertRaises(BadJumps) as caught:
            JumpMachine(program, code=JumpCode(rows, (0,), (7, 9)))
        self.assertEqual(caught.exception.fault, ("step", 11))
        rows = code.rows[:9] + (("copy", 0, 1), ("value", 1, 6), ("call", 0, (1,)))
        self.beside(program, code=JumpCode(rows, (0,), (7, 9)), at=1)

    def test_the_code_is_kept_as_it_was(self):
        program = Program("(show (keep k (k 1)))")
        compiled = compiled_jumps(program)
        self.assertEqual(JumpMachine(program).code, compiled)
        rows, starts, returns = list(compiled.rows), list(compiled.starts), list(compiled.returns)
        machine = JumpMachine(program, code=JumpCode(rows, starts, returns))
        rows[:] = starts[:] = returns[:] = [None]
        self.assertEqual(run_seen(machine), Seen(("1",), END))

    def test_bad_code(self):
        program = Program("(show (keep k (k 1)))")
        compiled = compiled_jumps(program)
        standing = JumpMachine(program).standing()
        for code, fault in (
            (JumpCode(compiled.rows, (), compiled.returns), ("starts", 0)), (JumpCode(compiled.rows, compiled.starts, (1, 2)), ("returns", 2)),
            (JumpCode(compiled.rows, (-1,), compiled.returns), ("start", 0)), (JumpCode(compiled.rows, (0,), (99,)), ("return", 0)),
            (JumpCode((("jump", 0),), (0,), (0,)), ("jump", 0)), (JumpCode(compiled.rows[:-1], (0,), compiled.returns), ("end", len(compiled.rows) - 1)),
            (JumpCode((("mark",),) + compiled.rows[1:], (0,), compiled.returns), ("step", 0)),
            (JumpCode((("keep", 5),) + compiled.rows[1:], (0,), compiled.returns), ("cell", 0)),
        ):
            for make in (lambda: JumpMachine(program, code=code), lambda: JumpMachine(program, [1], 0, code=code),
                         lambda: JumpMachine.restored(program, (), standing, code=code)):
                with self.assertRaises(BadJumps) as caught:
                    make()
                self.assertEqual(caught.exception.fault, fault)
            # Bad inputs come first.
            for make in (lambda: JumpMachine(program, (1, None), code=code), lambda: JumpMachine.restored(program, [1, 2.5], standing, code=code)):
                with self.assertRaises(BadAsks) as caught:
                    make()
                self.assertEqual(caught.exception.index, 1)

    def test_bad_inputs(self):
        program = Program("1")
        for asks, index in ((None, 0), ("1", 0), ([1, True], 1), ([10 ** 9 + 1], 0), ([0] * 41, 40)):
            for make in (lambda: JumpMachine(program, asks), lambda: JumpMachine.restored(program, asks, None)):
                with self.assertRaises(BadAsks) as caught:
                    make()
                self.assertEqual(caught.exception.index, index)


class Records(Jump):
    """[12.3]: what lies in chains, and how many records are made."""

    def made(self, text, *due):
        machine = JumpMachine(Program(text))
        found = [machine.made]
        while machine.outcome is None:
            machine.advance()
            found.append(machine.made)
        self.assertEqual(tuple(found), due, text)

    def test_made(self):
        self.made("1", 0)
        self.made("(+ 1 (keep k 5))", 1)
        self.made("(mark (mark (+ 1 (keep k 5))))", 3)
        self.made("(once k 5)", 1)
        self.made("(+ 1 (keep k (do (k 5) 6)))", 2, 2)
        # The wind and the way frame of its enter deed, then that of its leave deed.
        self.made("(wind (fn () 1) 2 (fn () 3))", 2, 2, 3, 3)
        # A frame and a mark; a frame for the call of k from within, then a new mark each time.
        self.made("(mark (+ 1 (take k (k (k 5)))))", 2, 3, 4, 5)

    def test_going_on_many_times_makes_nothing(self):
        machine = JumpMachine(Program("(let ((r none) (n 0)) (do (+ 1 (+ 2 (keep k (do (set r k) 1)))) (set n (+ n 1)) (if (< n 900) (r n) (show n))))"))
        first = machine.made
        run_seen(machine)
        self.assertEqual((machine.calls, machine.made, machine.shown), (899, first, ("900",)))
        # A piece that is laid on: a mark each time, whatever it holds.
        machine = JumpMachine(Program("""(rec ((lay (fn (k n) (if (= n 0) 0 (do (k n) (lay k (- n 1)))))))
            (mark (+ 1 (+ 1 (+ 1 (+ 1 (take k (lay k 300))))))))"""))
        run_seen(machine)
        self.assertEqual(machine.outcome, END)
        self.assertLessEqual(machine.made, 5 + 300 * 2)

    def test_the_chain_of_a_run(self):
        machine = JumpMachine(Program("(+ 1 (mark (+ 2 (wind (fn () 1) (show (2)) (fn () 3)))))"))
        self.assertIsInstance(machine.chain, Chain)
        top, marked = machine.chain.top, machine.chain.marked
        self.assertIsInstance(top, Record)
        self.assertIsInstance(marked, MarkRecord)
        self.assertEqual((top.word, top.below.word, top.below.below, marked.top.word, marked.outer), ("way", "wait", None, "wait", None))
        self.assertEqual((top.birth, top.below.birth, marked.birth, marked.top.birth), (8, 3, 2, 1))
        (word, wind, number), then = top.detail
        self.assertEqual((word, wind.word, wind.birth, wind.below, number, then), ("on", "wind", 7, top.below, 1, ("call", ("fun", 5), ())))

    def tops_at_funs(self, text, asks=()):
        """The topmost record and that of the mark at each call of a fun."""
        machine = JumpMachine(Program(text), asks)
        found = []
        while machine.outcome is None:
            if machine.standing().callee[0] == "fun":
                found.append((machine.chain.top, machine.chain.marked))
            machine.advance()
        self.assertEqual(machine.outcome, END)
        return found

    def test_a_rest_gone_on_with_is_the_same_records(self):
        found = self.tops_at_funs("""(let ((r none) (n 0))
            (do (+ 1 (do (keep k (set r k)) ((fn () 1)))) (set n (+ n 1)) (if (< n 4) (r 0) 0)))""")
        self.assertEqual(len(found), 4)
        self.assertEqual([link.birth for link in (found[0][0], found[0][0].below)], [4, 3])
        for top, marked in found:
            self.assertIs(top, found[0][0])
            self.assertIsNone(marked)

    def test_what_lies_above_a_mark_is_one_row_wherever_it_is_laid(self):
        # The piece has the frames of + and of the do around the take; a fun is called above them whenever it is laid on.
        found = self.tops_at_funs("""(let ((p none)) (do (mark (+ 1 (do (take k (set p k)) ((fn () 2))))) (+ 5 (p 0)) (mark (p 0)) 0))""")
        # First the call that ends the take.
        self.assertEqual((len(found), found[0][0]), (3, None))
        self.assertIs(found[1][0], found[2][0])
        self.assertEqual(found[1][0].word, "wait")
        self.assertIsNone(found[1][0].below)
        self.assertIsNot(found[1][1], found[2][1])
        self.assertEqual((found[1][1].top.word, found[2][1].top, found[2][1].outer.top.word), ("wait", None, "wait"))

    def test_a_used_once_rest_holds_nothing(self):
        machine = JumpMachine(Program("(let ((r none)) (do (show (once k (do (set r k) 1))) (1 r)))"))
        self.assertIn(("once", (), 1), [thing for _, thing in machine.standing().things])

    def test_a_restored_machine_counts_anew(self):
        program = Program("(mark (+ 1 (take k (k (k 5)))))")
        first = JumpMachine(program)
        first.advance()
        other = JumpMachine.restored(program, (), first.standing())
        self.assertEqual((first.made, other.made), (3, 0))
        first.advance()
        other.advance()
        self.assertEqual((first.made, other.made), (4, 1))

    def test_restored_rests_share_what_they_begin_with(self):
        # At the second call the present frames begin with those of the rest: they are the same records.
        program = Program("(+ 1 (keep a (+ 2 (+ (a 3) 1))))")
        machine = JumpMachine.restored(program, (), JumpMachine(program).standing())
        self.assertEqual([birth for birth, _ in chain_frames(machine.chain)], [1, 3, 4])
        bottom = machine.chain.top.below.below
        machine.advance()
        self.assertEqual(machine.outcome, END)
        rests = [thing for thing in machine._things.values() if isinstance(thing, tuple) and thing[0] == "keep"]
        self.assertIs(rests[0][1].top, bottom)


class Made(Jump):
    def test_what_it_is(self):
        program = Program("(show (ask)) ((fn () 1))")
        machine = JumpMachine(program, [7])
        self.assertIsInstance(machine, Machine)
        self.assertEqual((JumpMachine.KIND, machine.KIND), ("jump", "jump"))
        self.assertIs(machine.program, program)
        self.assertEqual((machine.asks, machine.fuel, machine.calls, machine.outcome, machine.asked, machine.shown, machine.copied),
                         ((7,), 2000, 0, None, 1, ("7",), 0))
        other = JumpMachine.restored(program, [7], machine.standing(), 5)
        self.assertIsInstance(other, JumpMachine)
        self.assertEqual((other.fuel, other.calls, other.asked, other.shown), (5, 0, 1, ()))
        self.assertEqual(other.code, compiled_jumps(program))
        self.assertEqual(JumpMachine.restored(program, (7,), machine.standing()).fuel, 2000)

    def test_no_fuel(self):
        machine = JumpMachine(Program("(show ((fn () 1)))"), (), 0)
        self.assertEqual((machine.outcome, machine.calls), (None, 0))
        for _ in range(2):
            machine.advance()
            self.assertEqual((machine.outcome, machine.calls, machine.standing(), machine.shown), (("fuel",), 0, None, ()))

    def test_two_thousand_calls_by_default(self):
        machine = JumpMachine(Program("(rec ((f (fn () (f)))) (f))"))
        run_seen(machine)
        self.assertEqual((machine.outcome, machine.calls), (("fuel",), 2000))

    def test_neither_changes_the_other(self):
        program = Program("(let ((p (pair 1 2))) (do (keep k (left! p k)) (show (rest? (left p))) (left! p 5) ((fn () 2)) (show p)))")
        machine = JumpMachine(program)
        standing = machine.standing()
        one = JumpMachine.restored(program, (), standing)
        self.assertEqual(run_seen(one).shows, ("(5 2)",))
        self.assertEqual(machine.standing(), standing)
        two = JumpMachine.restored(program, (), standing)
        run_seen(machine)
        self.assertEqual(two.standing(), standing)
        self.assertEqual(run_seen(two).shows, ("(5 2)",))

    def test_standing_again_tells_the_same(self):
        machine = JumpMachine(Program(TEXTS[8]))
        while machine.outcome is None:
            self.assertEqual(machine.standing(), machine.standing())
            machine.advance()
        self.assertIsNone(machine.standing())

    def test_a_rest_with_no_frames(self):
        # keep at the bottom, and the goal of a road without frames.
        for text in ("(keep k (wind (fn () 1) (k 2) (fn () 3)))", "(take k (pair k (1 k)))", "(keep k (mark (k 5)))"):
            self.beside(Program(text), at=1)

    def test_a_way_frame_on_several_rows(self):
        # The same way frame lies on unlike frames: the row of its road begins behind each of them.
        program = Program("(show (wind (fn () (show 1)) (keep k (k k)) (fn () (show 2))))")
        things = {2: ("fun", 1, ()), 3: ("wait", 0, ()), 4: ("wind", ("fun", 2), ("fun", 2)), 5: ("mark",),
                  6: ("way", ("to", (3, 4), 1), ("give", 7)), 7: ("wind", ("fun", 2), ("fun", 2)),
                  8: ("keep", (3, 4, 11)), 9: ("piece", (4, 11)), 11: ("way", ("on", (7,)), ("call", ("rest", 9), (("rest", 8),)))}
        for frames, callee in (((3, 11), ("rest", 8)), ((3, 5, 11), ("fun", 2)), ((5, 3, 4, 11), ("rest", 9))):
            handed = (5,) if callee[0] == "rest" else ()
            standing = Standing(callee, handed, frames, reached(callee, handed, frames, things), 13, 0, 0, 0)
            plain, jump = PlainMachine.restored(program, (), standing), JumpMachine.restored(program, (), standing)
            while plain.outcome is None and plain.calls < 60:
                self.assertEqual(jump.standing(), plain.standing())
                plain.advance()
                jump.advance()
            self.assertEqual((jump.outcome, jump.shown, jump.calls), (plain.outcome, plain.shown, plain.calls))


if __name__ == "__main__":
    unittest.main()
