"""pilemachine.py: [8.3] to [8.5], beside the plain machine."""

import random
import unittest

from makeprograms import good_tree
from writtenprograms import FAULTS, TEXTS

from goonagain.compiler import compiled_code, turned_code
from goonagain.errors import BadAsks, BadCode
from goonagain.machine import Machine, Seen, run_seen
from goonagain.pilemachine import PileMachine
from goonagain.plain import PlainMachine
from goonagain.program import Program
from goonagain.rows import Code
from goonagain.standing import Standing, reached

END = ("end",)


class Counting(PlainMachine):
    """A plain machine that counts what [8.4] says of a pile machine, from the frames of the steps."""

    def __init__(self, program, asks=(), fuel=2000):
        self.counted = 0
        self.road = ("out",)
        super().__init__(program, asks, fuel)

    def _make(self, thing):
        if thing[0] in ("keep", "piece"):
            self.counted += len(thing[1])
        return super()._make(thing)

    def _make_once(self):
        rest = super()._make_once()
        self.counted += len(self._frames)
        return rest

    def _perform(self):
        callee = self._things[self._callee[1]]
        self.road = ("on", len(self._frames) + 1) if callee[0] == "piece" else ("to",)
        super()._perform()

    def _passed_on(self, frame, worth):
        if frame[0] == "way":
            # Behind its enter deed the wind itself is put on, uncounted.
            self.road = ("on", len(self._frames) + 1) if frame[1][0] == "on" else frame[1]
        else:
            self.road = ("out",)
        return super()._passed_on(frame, worth)

    def _take_frames(self, callee):
        self.road = ("off",)
        super()._take_frames(callee)

    def _come_into(self, enter, body, leave):
        self.road = ("out",)
        super()._come_into(enter, body, leave)

    def _stepped(self, step, then):
        if self.road[0] == "to" and step[0] != "leave":
            self.counted += len(step[2])
        if self.road[0] == "on":
            self.counted += len(step[2]) - self.road[1]
        return super()._stepped(step, then)


class Pile(unittest.TestCase):
    def beside(self, program, asks=(), fuel=2000, code=None, at=None):
        """Runs both machines beside one another; at is how often a pile machine is made anew from a standing."""
        plain, pile = Counting(program, asks, fuel), PileMachine(program, asks, fuel, code=code)
        deepest = copied = before = 0
        while True:
            told = (plain.calls, plain.outcome, plain.asked, plain.shown[before:])
            self.assertEqual((pile.calls, pile.outcome, pile.asked, pile.shown), told)
            self.assertEqual(pile.standing(), plain.standing())
            self.assertEqual(pile.copied, plain.counted - copied)
            self.assertEqual(pile.depth, len(pile.pile_slots()))
            deepest = max(deepest, pile.depth)
            self.assertEqual(pile.deepest, deepest)
            if plain.outcome is not None:
                self.assertEqual((pile.depth, pile.pile_slots(), pile.roads_kept()), (0, (), {}))
                return plain.calls
            if at and plain.calls % at == 0:
                # From the plain machine's standing, and from another pile machine's.
                source = plain if plain.calls % 2 else pile
                slots, roads = pile.pile_slots(), pile.roads_kept()
                pile = PileMachine.restored(program, asks, source.standing(), fuel, code=code)
                self.assertEqual((pile.pile_slots(), pile.roads_kept(), pile.copied, pile.shown), (slots, roads, 0, ()))
                self.assertEqual((pile.depth, pile.deepest), (len(slots), len(slots)))
                deepest, copied, before = pile.depth, plain.counted, len(plain.shown)
            plain.advance()
            pile.advance()


class Beside(Pile):
    def test_written_programs(self):
        for text in TEXTS:
            program = Program(text)
            for asks in ((), [1, -2, 5]):
                self.beside(program, asks, 300)
            self.beside(program, (3,), 60, at=1)
            self.beside(program, (3,), 60, at=3)

    def test_every_fuel(self):
        for text in TEXTS:
            program = Program(text)
            for fuel in range(12):
                self.beside(program, (4, 5), fuel)

    def test_faults_of_every_word(self):
        for text, word in FAULTS:
            program = Program(text)
            self.assertEqual(run_seen(PileMachine(program)).end, ("fault", word), text)
            self.beside(program, at=1)

    def test_random_programs(self):
        calls = 0
        ends = {}
        for seed in range(700):
            tree = good_tree(seed, deep=5 + seed % 2, gentle=seed % 3 > 0)
            if tree is not None:
                program = Program.of_tree(tree)
                calls += self.beside(program, (1, 2), (3, 15, 50)[seed % 3], at=(0, 1, 2, 5)[seed % 4])
                end = run_seen(PileMachine(program, (1, 2), 50)).end
                ends[end] = True
        self.assertGreater(calls, 2000)
        self.assertIn(END, ends)
        self.assertIn(("fuel",), ends)
        self.assertIn(("fault", "once"), ends)

    def test_thousands_of_frames(self):
        for text in (
            "(rec ((f (fn (n) (+ 1 (+ 1 (+ 1 (+ 1 (if (= n 0) 0 (f (- n 1)))))))))) (show (f 1500)))",
            "(rec ((f (fn (n) (mark (+ 1 (if (= n 0) 0 (f (- n 1)))))))) (show (f 1500)))",
            "(keep k (rec ((f (fn (n) (wind (fn () 1) (if (= n 0) (k 1) (f (- n 1))) (fn () 2))))) (show (f 480))))",
            "(rec ((f (fn (n) (if (< n 1) (keep k (fn () (k (fn () n)))) ((fn (x) x) (f (- n 1))))))) (((f 600))))",
        ):
            program = Program(text)
            plain, pile = PlainMachine(program), PileMachine(program)
            while plain.outcome is None:
                if plain.calls % 300 == 0:
                    self.assertEqual(pile.standing(), plain.standing())
                    pile = PileMachine.restored(program, (), pile.standing())
                plain.advance()
                pile.advance()
            self.assertEqual((pile.outcome, pile.calls), (plain.outcome, plain.calls))
            self.assertEqual(run_seen(PileMachine(program)), run_seen(PlainMachine(program)))


class OtherCode(Pile):
    def test_code_that_is_turned_about(self):
        chance = random.Random(8)
        for text in TEXTS:
            program = Program(text)
            code = compiled_code(program)
            for _ in range(3):
                code = turned_code(code, [chance.randint(0, len(code.rows)) for _ in range(chance.choice((1, 3, 30)))])
                machine = PileMachine(program, (1,), 60, code=code)
                self.assertEqual(machine.code, code)
                self.beside(program, (1, 2), 60, code=code, at=chance.choice((0, 1, 4)))

    def test_other_codes_that_fit(self):
        program = Program("(let ((f (fn (x) (show x))) (g (fn (y) (show y)))) (if (f (ask)) (g 1) (f 2)))")
        code = Code((
            "anything", ("give", 0), ("jump", 4), None, ("show",), ("jump", 1),
            ("fun", 1, ()), ("jump", 9), ("jump", 9), ("fun", 2, ()), ("wait", 0), ("slot", 0), ("ask",), ("call", 1, 3),
            ("slot", 2), ("unless", 21), ("slot", 1), ("value", 1), ("jump", 19), ("call", 1, 0), ("slot", 99),
            ("slot", 0), ("value", 2), ("jump", 19), ("slot", 0), ("jump", 2), ["jump", 3]), (14,), (6, 24, 24))
        self.beside(program, (5,), code=code)
        self.beside(program, (), code=code, at=1)
        seen = run_seen(PileMachine(program, (5,), code=code))
        self.assertEqual(seen, Seen(("5", "1"), END))

    def test_equal_numbers_of_another_kind(self):
        program = Program("(show (+ 1 (keep k (k 0))))")
        rows = compiled_code(program).rows
        other = tuple(tuple(item == 1 if item in (0, 1) and not isinstance(item, tuple) else item for item in row) for row in rows)
        code = Code(other, compiled_code(program).places, compiled_code(program).bodies)
        self.assertTrue(any(True in row for row in other))
        machine = PileMachine(program, code=code)
        self.assertIs(machine.standing().handed[0] == 0 and isinstance(machine.standing().handed[0], bool), False)
        self.assertEqual(run_seen(machine), Seen(("1",), END))

    def test_the_code_is_kept_as_it_was(self):
        program = Program("(show (keep k (k 1)))")
        compiled = compiled_code(program)
        self.assertEqual(PileMachine(program).code, compiled)
        rows, places, bodies = list(compiled.rows), list(compiled.places), list(compiled.bodies)
        machine = PileMachine(program, code=Code(rows, places, bodies))
        rows[:] = places[:] = bodies[:] = [None]
        self.assertEqual(run_seen(machine), Seen(("1",), END))

    def test_bad_code(self):
        program = Program("(show (keep k (k 1)))")
        compiled = compiled_code(program)
        standing = PileMachine(program).standing()
        for code, fault in (
            (Code(compiled.rows, (), compiled.bodies), ("places", 0)), (Code(compiled.rows, compiled.places, (1, 2)), ("bodies", 2)),
            (Code(compiled.rows, compiled.places, (-1,)), ("address", -1)), (Code((("jump", 0),), (0,), (0,)), ("ring", 0)),
            (Code(compiled.rows, compiled.places, compiled.places), ("row", compiled.places[0])),
        ):
            for make in (lambda: PileMachine(program, code=code), lambda: PileMachine(program, [1], 0, code=code),
                         lambda: PileMachine.restored(program, (), standing, code=code)):
                with self.assertRaises(BadCode) as caught:
                    make()
                self.assertEqual(caught.exception.fault, fault)
            # Bad inputs come first.
            for make in (lambda: PileMachine(program, (1, None), code=code), lambda: PileMachine.restored(program, [1, 2.5], standing, code=code)):
                with self.assertRaises(BadAsks) as caught:
                    make()
                self.assertEqual(caught.exception.index, 1)

    def test_bad_inputs(self):
        program = Program("1")
        for asks, index in ((None, 0), ("1", 0), ([1, True], 1), ([10 ** 9 + 1], 0), ([0] * 41, 40)):
            for make in (lambda: PileMachine(program, asks), lambda: PileMachine.restored(program, asks, None)):
                with self.assertRaises(BadAsks) as caught:
                    make()
                self.assertEqual(caught.exception.index, index)


class Counts(Pile):
    """[8.4], worked out by hand."""

    def counts(self, text, *due, end=END, asks=()):
        """due: (copied, depth, deepest) at each call, then copied and deepest at the outcome."""
        machine = PileMachine(Program(text), asks)
        found = []
        while machine.outcome is None:
            found.append((machine.copied, machine.depth, machine.deepest))
            machine.advance()
        found.append((machine.copied, machine.deepest))
        self.assertEqual((tuple(found), machine.outcome), (due, end), text)
        self.assertEqual((machine.depth, machine.pile_slots(), machine.roads_kept()), (0, (), {}))

    def test_no_call(self):
        self.counts("(show (mark (keep k 1)))", (2, 0))

    def test_funs(self):
        # x, its marker; then 2 more in the fun: y, captured x, and a marker.
        self.counts("(let ((x 1)) (+ x ((fn (y) (+ y ((fn () (show 5))))) 2)))", (0, 3, 3), (0, 6, 6), (0, 6))

    def test_keep(self):
        # 1 and the marker of +; the rest and the marker of do. The rest has one frame, and is gone on with once.
        self.counts("(+ 1 (keep k (do (k 5) 6)))", (1, 4, 4), (2, 4))
        # The second rest has two frames.
        self.counts("(show (keep k (show (keep j (j 1)))))", (3, 3, 3), (5, 3))

    def test_a_rest_gone_on_with_several_times(self):
        # The text holds r and n in pairs: slots 0 to 3. do: its marker. Then the calls come from the fourth item's rows.
        text = "(let ((r none) (n 0)) (do (keep k (set r k)) (set n (+ n 1)) (if (< n 4) (r n) (show n))))"
        self.counts(text, (1, 0, 0), (2, 0, 0), (3, 0, 0), (4, 0))

    def test_once(self):
        # A once rest has its own pass frame: 2 frames. The env is copied above the pass marker.
        self.counts("(+ 1 (once k (+ 2 (k 5))))", (2, 7, 7), (4, 7))
        self.counts("(once k (k 1))", (1, 1, 1), (2, 1))

    def test_mark_and_take(self):
        # The piece has one frame: 1 when taken. Laid on twice it is copied twice; the new marks do not count.
        self.counts("(mark (+ 1 (take k (k (k 5)))))", (1, 1, 1), (1, 4, 4), (2, 1, 4), (3, 4))
        # A piece without frames.
        self.counts("(mark (take k (k 5)))", (0, 1, 1), (0, 1, 1), (0, 1))
        # Without a mark all frames are taken.
        self.counts("(show (show (take k 1)))", (2, 0, 0), (2, 0))

    def test_wind(self):
        # Coming in and going out copy nothing: each wind stands at calls with its way marker, then as itself, then left.
        self.counts("(wind (fn () 1) 2 (fn () 3))", (0, 1, 1), (0, 1, 1), (0, 1, 1), (0, 1))
        self.counts("(show (wind (fn () 1) 2 (fn () 3)))", (0, 2, 2), (0, 2, 2), (0, 2, 2), (0, 2))

    def test_a_road_to_that_leaves(self):
        # keep: 1 frame. Leave deeds copy nothing, the arrival the one frame of the rest.
        self.counts("(show (keep k (wind (fn () 1) (wind (fn () 2) (k 5) (fn () 4)) (fn () 3))))",
                    (1, 2, 2), (1, 2, 2), (1, 3, 3), (1, 3, 3), (1, 3, 3), (1, 3, 3), (1, 2, 3), (2, 3))

    def test_a_road_to_that_enters(self):
        # f is called in the frame of do (1), within two winds (2, 3) and the frame of a show (4): the rest has 4 frames.
        text = """(let ((p (pair none 0)))
          (do (wind (fn () 1) (wind (fn () 2) (show (keep k (left! p k))) (fn () 3)) (fn () 4))
              (right! p (+ 1 (right p)))
              (if (< (right p) 2) ((left p) 0) none)))"""
        # Two enter deeds and two bodies; the rest is kept (4 frames); two leave deeds; the rest is called last of all.
        # Entering the first wind puts 1 frame there, the second one 2, the arrival 4; then both are left again.
        self.counts(text, (0, 3, 3), (0, 3, 3), (0, 4, 4), (0, 4, 4), (4, 4, 4), (4, 3, 4), (4, 0, 4),
                    (5, 3, 4), (7, 4, 4), (11, 4, 4), (11, 3, 4), (11, 4))

    def test_a_road_on(self):
        # The piece: show's frame, the wind, show's frame: 3. Laying it on puts 1 on ahead of the wind, 1 behind it.
        text = "(mark (show (wind (fn () 1) (show (take k (k 5))) (fn () 2))))"
        machine = PileMachine(Program(text))
        copied = []
        while machine.outcome is None:
            copied.append(machine.copied)
            machine.advance()
        # Enter deed, body, leave deed of the take, its fun, the piece, enter deed, leave deed.
        self.assertEqual(copied + [machine.copied], [0, 0, 3, 3, 3, 4, 5, 5])

    def test_tail_loops_keep_the_pile(self):
        for text, depth in (
            ("(rec ((f (fn (n) (f (+ n 1))))) (f 0))", 0),
            ("(rec ((f (fn (n) (let ((a n) (b 2)) (if (< a b) (f (+ n 1)) (f n)))))) (show (f 0)))", 2),
            ("(let ((r none)) (do (keep k (set r k)) (r 1)))", 0),
            ("(mark (rec ((f (fn (n) (f (+ n 1))))) (f 0)))", 1),
        ):
            machine = PileMachine(Program(text), (), 500)
            self.assertEqual(machine.depth, depth)
            for _ in range(500):
                machine.advance()
                self.assertIsNone(machine.outcome)
                self.assertEqual((machine.depth, machine.deepest), (depth, depth))

    def test_pile_slots_and_roads(self):
        machine = PileMachine(Program("(let ((x 7)) (+ x (keep k (wind (fn () 1) (k x) (fn () 2)))))"))
        # x, the operand x, the marker of +, the rest is 2; 3 and 4 the deeds, 5 the body's fun, 6 the wind, 7 the way.
        wind = ("wind", 6, ("fun", 3), ("fun", 5))
        self.assertEqual(machine.pile_slots(), (7, 7, ("wait", 1, 0), ("way", 7)))
        self.assertEqual(machine.roads_kept(), {7: (("on", (wind,)), ("call", ("fun", 4), ()))})
        machine.advance()
        self.assertEqual((machine.pile_slots(), machine.roads_kept()), ((7, 7, ("wait", 1, 0), wind), {}))
        machine.advance()
        self.assertEqual((machine.pile_slots(), machine.roads_kept()), ((7, 7, ("wait", 1, 0), wind), {}))
        machine.advance()
        self.assertEqual(machine.pile_slots(), (7, 7, ("wait", 1, 0), ("way", 8)))
        self.assertEqual(machine.roads_kept(), {8: (("to", (7, 7, ("wait", 1, 0)), 0), ("give", 7))})
        machine.advance()
        self.assertEqual((machine.outcome, machine.pile_slots(), machine.roads_kept()), (END, (), {}))

    def test_what_is_told_is_new(self):
        machine = PileMachine(Program("(show (wind (fn () 1) 2 (fn () 3)))"))
        roads, slots = machine.roads_kept(), machine.pile_slots()
        told = dict(roads)
        roads.clear()
        self.assertEqual(machine.roads_kept(), told)
        machine.advance()
        self.assertNotEqual(machine.pile_slots(), slots)
        self.assertEqual(len(slots), 2)

    def test_at_no_fuel(self):
        machine = PileMachine(Program("(show ((fn () 1)))"), (), 0)
        self.assertEqual((machine.depth, machine.deepest, machine.outcome), (1, 1, None))
        machine.advance()
        self.assertEqual((machine.depth, machine.deepest, machine.outcome, machine.pile_slots()), (0, 1, ("fuel",), ()))
        machine.advance()
        self.assertEqual((machine.depth, machine.deepest, machine.calls, machine.standing()), (0, 1, 0, None))


class Made(Pile):
    def test_what_it_is(self):
        program = Program("(show (ask)) ((fn () 1))")
        machine = PileMachine(program, [7])
        self.assertIsInstance(machine, Machine)
        self.assertEqual((PileMachine.KIND, machine.KIND), ("pile", "pile"))
        self.assertIs(machine.program, program)
        self.assertEqual((machine.asks, machine.fuel, machine.calls, machine.outcome, machine.asked, machine.shown),
                         ((7,), 2000, 0, None, 1, ("7",)))
        other = PileMachine.restored(program, [7], machine.standing(), 5)
        self.assertIsInstance(other, PileMachine)
        self.assertEqual((other.fuel, other.calls, other.asked, other.shown), (5, 0, 1, ()))
        self.assertEqual(other.code, compiled_code(program))
        self.assertEqual(PileMachine.restored(program, (7,), machine.standing()).fuel, 2000)

    def test_neither_changes_the_other(self):
        program = Program("(let ((p (pair 1 2))) (do (keep k (left! p k)) (show (rest? (left p))) (left! p 5) ((fn () 2)) (show p)))")
        machine = PileMachine(program)
        standing = machine.standing()
        one = PileMachine.restored(program, (), standing)
        self.assertEqual(run_seen(one).shows, ("(5 2)",))
        self.assertEqual(machine.standing(), standing)
        two = PileMachine.restored(program, (), standing)
        run_seen(machine)
        self.assertEqual(two.standing(), standing)
        self.assertEqual(run_seen(two).shows, ("(5 2)",))

    def test_standing_again_tells_the_same(self):
        machine = PileMachine(Program(TEXTS[8]))
        while machine.outcome is None:
            self.assertEqual(machine.standing(), machine.standing())
            machine.advance()

    def test_a_standing_that_no_run_of_the_program_comes_to(self):
        # The births mean other things than in the program's own run up to its first call.
        things = (
            (2, ("fun", 1, ())), (3, ("wait", 0, ())), (4, ("wind", ("fun", 2), ("fun", 2))), (5, ("mark",)),
            (6, ("way", ("to", (3, 4), 1), ("give", 7))), (8, ("keep", (3, 4, 5))), (9, ("piece", (4,))),
            (11, ("way", ("on", (4,)), ("call", ("rest", 9), (("rest", 8),)))), (12, ("wait", 0, ())))
        program = Program("(show (wind (fn () (show 1)) (keep k (k k)) (fn () (show 2))))")
        for frames, callee in (((3, 4, 5, 6, 12), ("rest", 8)), ((3, 5, 11), ("fun", 2)), ((3, 4, 5, 11, 5, 6), ("rest", 9))):
            reach = reached(callee, (), frames, dict(things + ((13, ("pair", ("rest", 8), ("rest", 9))),)))
            standing = Standing(callee, (5,) if callee[0] == "rest" else (), frames, reach, 13, 0, 0, 0)
            plain, other = PlainMachine.restored(program, (), standing), PileMachine.restored(program, (), standing)
            while plain.outcome is None:
                self.assertEqual(other.standing(), plain.standing())
                plain.advance()
                other.advance()
            self.assertEqual((other.outcome, other.shown, other.calls), (plain.outcome, plain.shown, plain.calls))


if __name__ == "__main__":
    unittest.main()
