"""piecesmachine.py: part 9, beside the plain machine; [10.5], [10.6]."""

import copy
import unittest

from makeprograms import good_tree
from writtenprograms import FAULTS, TEXTS

from goonagain.errors import BadAsks
from goonagain.heldframes import held_frames, most_held, reached_rows
from goonagain.machine import Machine, run_seen
from goonagain.piecesmachine import PiecesMachine
from goonagain.pilemachine import PileMachine
from goonagain.plain import PlainMachine
from goonagain.program import Program
from goonagain.segments import Holding, cut_blocks
from goonagain.standing import Standing, reached, reached_by
from goonagain.trees import tree_at, tree_paths

END = ("end",)


def rows_of(standing):
    """The frames of each reached rest and of each reached road "to" or "on", by birth."""
    rows = {}
    for birth, thing in standing.things:
        if thing[0] in ("keep", "once", "piece"):
            rows[birth] = thing[1]
        elif thing[0] == "way" and thing[1][0] in ("to", "on"):
            rows[birth] = thing[1][1]
    return rows


class Naive(PiecesMachine):
    """A pieces machine that looks at all that is reached whenever a block is opened, as [9.5] says it."""

    def _is_held(self, block, worth):
        frames = tuple(birth for one in self._present + [block] for birth in one.frames)
        for birth, thing in reached_by(worth, (), frames, self._told_thing):
            blocks = self._blocks_held(birth)
            if blocks is not None and any(one is block for one in blocks):
                return True
        return False


class Pieces(unittest.TestCase):
    def sound(self, machine, standing, takes=True):
        """Whether what a machine holds is what [9.7] and [10.5] let."""
        holding = machine.holding()
        blocks = dict(holding.blocks)
        self.assertEqual(len(blocks), len(holding.blocks))
        self.assertEqual([number for number, _ in holding.blocks], sorted(blocks))
        things = dict(standing.things)
        for number, frames in holding.blocks:
            self.assertTrue(isinstance(number, int) and number >= 1)
            self.assertEqual(cut_blocks(frames, things), (frames,))
        self.assertTrue(all(things[birth][0] == "wait" for birth in holding.opened))
        told = {birth: sum((blocks[number] for number in numbers), ()) for birth, numbers in holding.rows}
        self.assertEqual(told, rows_of(standing))
        self.assertEqual([birth for birth, _ in holding.rows], sorted(told))
        self.assertEqual(sum((blocks[number] for number in holding.present), ()) + holding.opened, standing.frames)
        self.assertEqual(set(blocks), set(holding.present).union(*(numbers for _, numbers in holding.rows)))
        self.assertLessEqual(held_frames(holding), most_held(standing))
        if len(reached_rows(standing)) == 1:
            self.assertLessEqual(held_frames(holding), len(standing.frames))
            if not takes:
                self.assertEqual(held_frames(holding), len(standing.frames))
        return holding

    def beside(self, program, asks=(), fuel=2000, at=None):
        """Runs both machines beside one another; at is how often a pieces machine is made anew from a standing."""
        plain, pieces, pile = (kind(program, asks, fuel) for kind in (PlainMachine, PiecesMachine, PileMachine))
        takes = any(tree_at(program.tree, path)[0] == "take" for path in tree_paths(program.tree))
        known, before, anew = {}, 0, False
        while True:
            told = (plain.calls, plain.outcome, plain.asked, plain.shown[before:])
            self.assertEqual((pieces.calls, pieces.outcome, pieces.asked, pieces.shown), told)
            self.assertEqual(pieces.standing(), plain.standing())
            if not anew:
                self.assertLessEqual(pieces.copied, pile.copied)
            if plain.outcome is not None:
                self.assertIsNone(pieces.holding())
                return plain.calls
            holding = self.sound(pieces, plain.standing(), takes)
            # A number stays with its block, and is never another block's.
            for number, frames in holding.blocks:
                self.assertEqual(known.setdefault(number, frames), frames)
            if at and plain.calls % at == 0:
                source = plain if plain.calls % 2 else pieces
                pieces = PiecesMachine.restored(program, asks, source.standing(), fuel)
                self.assertEqual((pieces.copied, pieces.shown, pieces.holding().opened), (0, (), ()))
                known, before, anew = {}, len(plain.shown), True
                self.cut_as_told(pieces)
            plain.advance()
            pieces.advance()
            pile.advance()

    def cut_as_told(self, machine):
        """Whether a restored machine's rows are cut by [9.2], blocks with the same births being one."""
        standing, holding = machine.standing(), machine.holding()
        things, blocks = dict(standing.things), dict(holding.blocks)
        self.assertEqual(tuple(blocks[number] for number in holding.present), cut_blocks(standing.frames, things))
        for birth, numbers in holding.rows:
            self.assertEqual(tuple(blocks[number] for number in numbers), cut_blocks(rows_of(standing)[birth], things))
        self.assertEqual(len(set(blocks.values())), len(blocks))


class Beside(Pieces):
    def test_written_programs(self):
        for text in TEXTS:
            program = Program(text)
            for asks in ((), [1, -2, 5]):
                self.beside(program, asks, 300)
            self.beside(program, (3,), 60, at=1)
            self.beside(program, (3,), 60, at=3)

    def test_every_fuel(self):
        for text in TEXTS:
            program = Program(text)
            for fuel in range(12):
                self.beside(program, (4, 5), fuel)

    def test_faults_of_every_word(self):
        for text, word in FAULTS:
            program = Program(text)
            self.assertEqual(run_seen(PiecesMachine(program)).end, ("fault", word), text)
            self.beside(program, at=1)

    def test_random_programs(self):
        calls = 0
        ends = {}
        for seed in range(700):
            tree = good_tree(seed, deep=5 + seed % 2, gentle=seed % 3 > 0)
            if tree is not None:
                program = Program.of_tree(tree)
                calls += self.beside(program, (1, 2), (3, 15, 50)[seed % 3], at=(0, 0, 1, 2, 5)[seed % 5])
                ends[run_seen(PiecesMachine(program, (1, 2), 50)).end] = True
        self.assertGreater(calls, 2000)
        for end in (END, ("fuel",), ("fault", "once"), ("fault", "kind"), ("fault", "arity")):
            self.assertIn(end, ends)

    def test_thousands_of_frames(self):
        for text in (
            "(rec ((f (fn (n) (+ 1 (+ 1 (+ 1 (+ 1 (if (= n 0) 0 (f (- n 1)))))))))) (show (f 1500)))",
            "(rec ((f (fn (n) (+ 1 (+ 1 (+ 1 (+ 1 (if (= n 0) (keep k (k 0)) (f (- n 1)))))))))) (show (f 1500)))",
            "(rec ((f (fn (n) (mark (+ 1 (if (= n 0) 0 (f (- n 1)))))))) (show (f 1500)))",
            "(keep k (rec ((f (fn (n) (wind (fn () 1) (if (= n 0) (k 1) (f (- n 1))) (fn () 2))))) (show (f 480))))",
            "(rec ((f (fn (n) (if (< n 1) (keep k (fn () (k (fn () n)))) ((fn (x) x) (f (- n 1))))))) (((f 600))))",
        ):
            program = Program(text)
            plain, pieces = PlainMachine(program), PiecesMachine(program)
            while plain.outcome is None:
                if plain.calls % 300 == 0:
                    self.assertEqual(pieces.standing(), plain.standing())
                    self.sound(pieces, plain.standing())
                    pieces = PiecesMachine.restored(program, (), pieces.standing())
                plain.advance()
                pieces.advance()
            self.assertEqual((pieces.outcome, pieces.calls), (plain.outcome, plain.calls))
            self.assertEqual(run_seen(PiecesMachine(program)), run_seen(PlainMachine(program)))

    def test_several_machines_of_one_standing(self):
        for text in TEXTS:
            program = Program(text)
            first = PiecesMachine(program, (1, 2), 80)
            for _ in range(3):
                first.advance()
            standing = first.standing()
            if standing is None:
                continue
            told = copy.deepcopy(vars(standing))
            others = [PiecesMachine.restored(program, (1, 2), standing, 80) for _ in range(3)]
            alone = PlainMachine.restored(program, (1, 2), standing, 80)
            shown = first.shown
            # They go on in turns, at unlike speeds; each keeps to what the plain machine does alone.
            course = [alone.standing()]
            while alone.outcome is None:
                alone.advance()
                course.append(alone.standing())
            stands = [0, 0, 0]
            for turn in range(3 * len(course)):
                which = (turn * turn + turn // 2) % 3
                others[which].advance()
                stands[which] = min(stands[which] + 1, len(course) - 1)
                for machine, at in zip(others, stands):
                    self.assertEqual(machine.standing(), course[at])
                    if course[at] is not None:
                        self.sound(machine, course[at])
            self.assertEqual(vars(standing), told)
            self.assertEqual((first.standing(), first.shown), (standing, shown))


class Copies(Pieces):
    """[9.3], [9.5], worked out by hand: copied at each call, then at the outcome."""

    def copies(self, text, *due, end=END):
        machine = PiecesMachine(Program(text))
        found = []
        while machine.outcome is None:
            found.append(machine.copied)
            machine.advance()
        self.assertEqual((tuple(found) + (machine.copied,), machine.outcome), (due, end), text)

    def test_no_rests(self):
        self.copies("(rec ((f (fn (n) (if (= n 0) 0 (+ 1 (+ 1 (f (- n 1)))))))) (show (f 3)))", 0, 0, 0, 0, 0)
        self.copies("(mark (show (wind (fn () 1) (mark (show 2)) (fn () 3))))", 0, 0, 0, 0)

    def test_gone_on_with_once(self):
        self.copies("(+ 1 (keep k (do (k 5) 6)))", 0, 0)
        self.copies("(show (keep k 1))", 0)

    def test_gone_on_with_several_times(self):
        # r is held by the frame itself: at its return, and at each of the three goings-on, its block is copied.
        self.copies("(let ((r none) (n 0)) (do (keep k (set r k)) (set n (+ n 1)) (if (< n 4) (r n) (show n))))", 1, 2, 3, 4)

    def test_dropped_ahead_of_the_last_time(self):
        # When the value 1 comes nothing holds the rest any more: its own block is taken over.
        self.copies("""(let ((r none)) (do (keep k (set r k))
            (if (rest? r) (let ((q r)) (do (set r none) (q 1))) (show 9))))""", 1, 1)

    def test_blocks_of_several_frames(self):
        # do, show, + and + are one block, the other two + the second one; both are copied at the return, one by one.
        text = """(let ((r none)) (do (show (+ 1 (+ 2 (+ 3 (+ 4 (keep k (do (set r k) 5)))))))
            (if (rest? r) ((fn () 0)) none)))"""
        self.copies(text, 6, 6)
        # Without a rest that is reached both are taken over.
        self.copies("(do (show (+ 1 (+ 2 (+ 3 (+ 4 (keep k (k 5))))))) ((fn () 0)))", 0, 0, 0)
        # Only the upper block is opened ahead of the first call.
        self.copies("""(let ((r none)) (+ 1 (+ 2 (+ 3 (+ 4 (do (+ 5 (keep k (do (set r k) 5))) ((fn () 0)) 7))))))""", 2, 6)

    def test_a_once_rest(self):
        # It is used when the value has passed its place, and holds nothing then, though r names it.
        self.copies("(+ 1 (once k (+ 2 (k 5))))", 0, 0)
        self.copies("(let ((r none)) (+ 1 (once k (do (set r k) (k 5)))))", 0, 0)
        self.copies("(let ((r none)) (+ 1 (keep k (do (set r k) (k 5)))))", 0, 1)
        # As long as its place is there it holds what lies below: the inner rest's frames are opened amid it.
        self.copies("(let ((r none)) (+ 1 (once k (+ 2 (once j (do (set r j) (j 5)))))))", 0, 0)
        self.copies("(show (once k (do ((fn () 1)) (show (keep j (j 3))))))", 0, 0, 0)

    def test_a_frame_below_a_place_that_was_not_passed(self):
        # k is called from within itself, past its place; a keep rest goes below the place, where once still holds.
        self.copies("(let ((r none)) (show (keep j (once k (do (set r k) (j 5))))))", 0, 1)

    def test_a_piece_laid_on(self):
        self.copies("(mark (+ 1 (take k (k 5))))", 0, 0, 0)
        # At the first time the frame that waits for the second one names the piece.
        self.copies("(mark (+ 1 (take k (k (k 5)))))", 0, 0, 1, 1)
        self.copies("(mark (+ 1 (take k (+ (k 1) (+ (k 2) (k 3))))))", 0, 0, 1, 2, 3)

    def test_a_piece_laid_on_amid_itself(self):
        # The second time nothing names the piece, but the block of its first frame lies once more further below.
        self.copies("""(let ((q (pair none 0)))
            (do (mark (+ 1 (wind (fn () 0)
                    (do (take k (left! q k)) (if (= (right q) 0) (do (right! q 1) (+ 10 ((left q) (left! q none)))) 100))
                    (fn () 0))))
                ((left q) 0)))""", 0, 0, 0, 0, 0, 0, 1, 1, 1, 2, 2)

    def test_a_road_alone_that_holds_the_blocks(self):
        # The leave deed takes its own way frame into a piece that p names; k itself is gone.
        self.copies("(let ((p none)) (show (keep k (mark (wind (fn () 0) (k 5) (fn () (take j (set p j))))))))", 0, 0, 0, 0, 0, 1)
        self.copies("(let ((p none)) (show (keep k (mark (wind (fn () 0) (k 5) (fn () (take j (set p 0))))))))", 0, 0, 0, 0, 0, 0)

    def test_a_rest_that_is_only_handed_over(self):
        self.copies("(let ((f (fn (x) 1))) (+ 1 (keep k (f k))))", 0, 0)
        self.copies("(let ((f (fn (x y) x))) (+ 1 (keep k (f 1 (pair k k)))))", 0, 0)

    def test_a_rest_that_is_the_value_that_comes(self):
        self.copies("(rest? (keep k k))", 1)
        self.copies("(let ((f (fn (x) x))) (rest? (keep k (f k))))", 0, 1)
        self.copies("(pair? (keep k (pair 1 (pair k 2))))", 1)
        self.copies("(fun? (keep k (fn () (k 1))))", 1)

    def test_a_restored_machine(self):
        program = Program("(let ((r none) (n 0)) (do (keep k (set r k)) (set n (+ n 1)) (if (< n 4) (r n) (show n))))")
        machine = PiecesMachine(program)
        machine.advance()
        other = PiecesMachine.restored(program, (), machine.standing())
        found = []
        while other.outcome is None:
            found.append(other.copied)
            other.advance()
        self.assertEqual(found + [other.copied], [0, 1, 2])
        # A block with the same births is one: what is in the present row and in a rest is copied when it is opened.
        program = Program("(let ((r none)) (show (keep k (do (set r k) ((fn () 7))))))")
        machine = PiecesMachine(program)
        other = PiecesMachine.restored(program, (), machine.standing())
        run_seen(machine)
        run_seen(other)
        self.assertEqual((machine.copied, other.copied), (1, 1))

    def test_restored_amid_a_road_that_alone_holds_the_blocks(self):
        program = Program("(let ((p none)) (show (keep k (mark (wind (fn () 0) (k 5) (fn () (take j (set p j))))))))")
        machine = PiecesMachine(program)
        found = []
        while machine.outcome is None:
            other = PiecesMachine.restored(program, (), machine.standing())
            run_seen(other)
            found.append(other.copied)
            machine.advance()
        self.assertEqual(found, [1] * 5)
        # A road "on" that a piece has kept: its wind's block and the frame's above it.
        program = Program("""(let ((p none) (q none)) (do (mark (wind (fn () (if (rest? p) (take j (set q j)) 0)) (show (take k (set p k))) (fn () 0)))
            (mark (p 1)) (mark (q 2)) 3))""")
        machine = PiecesMachine(program)
        while machine.outcome is None:
            other, naive = PiecesMachine.restored(program, (), machine.standing()), Naive(program)
            naive._put_back(machine.standing())
            naive._put_into_blocks(machine.standing().frames)
            run_seen(other)
            run_seen(naive)
            self.assertEqual((other.copied, other.outcome), (naive.copied, naive.outcome))
            machine.advance()

    def test_no_copies_without_keep_once_and_take(self):
        for seed in range(120):
            tree = good_tree(seed, takes=False)
            if tree is None:
                continue
            words = {tree_at(tree, path)[0] for path in tree_paths(tree)}
            if words & {"keep", "once", "take"}:
                continue
            machine = PiecesMachine(Program.of_tree(tree), (), 60)
            run_seen(machine)
            self.assertEqual(machine.copied, 0)

    def test_beside_a_machine_that_looks_at_all_that_is_reached(self):
        many = 0
        programs = [Program(text) for text in TEXTS]
        programs += [Program.of_tree(tree) for tree in (good_tree(seed, deep=6, gentle=seed % 2 == 0) for seed in range(400))
                     if tree is not None]
        for program in programs:
            one, other = PiecesMachine(program, (1, 2), 60), Naive(program, (1, 2), 60)
            while one.outcome is None:
                self.assertEqual((one.copied, one.holding(), one.standing()), (other.copied, other.holding(), other.standing()))
                one.advance()
                other.advance()
            self.assertEqual((one.copied, one.outcome), (other.copied, other.outcome))
            many += one.copied
        self.assertGreater(many, 100)

    def test_never_more_than_the_pile_machine(self):
        many = 0
        for seed in range(300):
            tree = good_tree(seed, deep=6, gentle=True)
            if tree is not None:
                program = Program.of_tree(tree)
                pieces, pile = PiecesMachine(program, (), 40), PileMachine(program, (), 40)
                while pieces.outcome is None:
                    self.assertLessEqual(pieces.copied, pile.copied)
                    pieces.advance()
                    pile.advance()
                self.assertLessEqual(pieces.copied, pile.copied)
                many += pieces.copied
        self.assertGreater(many, 50)


class Holds(Pieces):
    """[9.7], [9.8]."""

    def test_example_9_8(self):
        machine = PiecesMachine(Program("(+ 1 (keep k (do (k 5) 6)))"))
        self.assertEqual(machine.holding(), Holding(((1, (1,)),), (1,), (3,), ((2, (1,)),)))
        machine.advance()
        self.assertEqual((machine.outcome, machine.copied, machine.holding()), (END, 0, None))

    def holding(self, text, calls, blocks, present, opened, rows):
        """Compares with what is held at a call, whatever numbers the blocks have: they are told here by their frames."""
        machine = PiecesMachine(Program(text))
        for _ in range(calls):
            machine.advance()
        found = machine.holding()
        named = dict(found.blocks)
        self.assertEqual(sorted(named.values()), sorted(blocks))
        self.assertEqual([named[number] for number in found.present], present)
        self.assertEqual(found.opened, opened)
        self.assertEqual({birth: [named[number] for number in numbers] for birth, numbers in found.rows}, rows)

    def test_waits_alone_stay_open(self):
        self.holding("(+ 1 (+ 2 (+ 3 (+ 4 (+ 5 (+ 6 (7)))))))", 0, [], [], (1, 2, 3, 4, 5, 6), {})
        # A call of a fun does not close the open row.
        self.holding("(+ 1 (+ 2 ((fn () (+ 3 (4))))))", 1, [], [], (1, 2, 4), {})

    def test_keep_closes_the_open_row(self):
        self.holding("(+ 1 (+ 2 (+ 3 (+ 4 (+ 5 (keep k (+ 6 (k 7))))))))", 0,
                     [(1, 2, 3, 4), (5,)], [(1, 2, 3, 4), (5,)], (7,), {6: [(1, 2, 3, 4), (5,)]})
        # Blocks of one and of two, as they were closed, stay so.
        self.holding("(+ 1 (keep k (+ 2 (+ 3 (keep j (+ 4 (1 k j)))))))", 0,
                     [(1,), (3, 4)], [(1,), (3, 4)], (6,), {2: [(1,)], 5: [(1,), (3, 4)]})

    def test_cut_frames(self):
        self.holding("(+ 1 (mark (+ 2 (once k (+ 3 (1 k))))))", 0, [(1,), (2,), (3,), (5,)], [(1,), (2,), (3,), (5,)], (6,),
                     {4: [(1,), (2,), (3,), (5,)]})
        # A wind that is come into: its way frame has the wind's block.
        self.holding("(+ 1 (wind (fn () 1) 2 (fn () 3)))", 0, [(1,), (5,), (6,)], [(1,), (6,)], (), {6: [(5,)]})
        self.holding("(+ 1 (wind (fn () 1) 2 (fn () 3)))", 1, [(1,), (5,)], [(1,), (5,)], (), {})
        # At the leave deed the wind is gone; a road "out" has no entry.
        self.holding("(+ 1 (wind (fn () 1) 2 (fn () 3)))", 2, [(1,), (7,)], [(1,), (7,)], (), {})

    def test_a_take(self):
        # The piece has the blocks above the mark; they are no longer present.
        self.holding("(mark (+ 1 (+ 2 (take k (k 5)))))", 0, [(1,), (2, 3)], [(1,)], (), {5: [(2, 3)]})
        self.holding("(mark (+ 1 (+ 2 (take k (+ 3 (k (k 5)))))))", 1, [(1,), (2, 3)], [(1,)], (6, 7), {5: [(2, 3)]})
        # A road "off" has no entry.
        self.holding("(mark (wind (fn () 1) (take k (k 5)) (fn () 2)))", 2, [(1,), (5,), (9,)], [(1,), (9,)], (), {8: [(5,)]})

    def test_a_road_to(self):
        self.holding("(show (keep k (wind (fn () 1) (k 5) (fn () 3))))", 3, [(1,), (8,)], [(1,), (8,)], (), {8: [(1,)]})

    def test_a_piece_laid_on_twice(self):
        # 4 waits for +, 8 is the wind, 10 waits for the called one, 12 is the piece; 15 and 19 are the new marks.
        text = """(let ((q none)) (do (mark (+ 1 (wind (fn () 0) ((take k (set q k))) (fn () 0)))) (q (fn () (+ 2 (q (fn () 5)))))))"""
        self.holding(text, 9, [(4,), (8,), (10,), (15,), (17,), (19,)], [(15,), (4,), (8,), (17,), (19,), (4,), (8,)], (),
                     {12: [(4,), (8,), (10,)]})
        machine = PiecesMachine(Program(text))
        for _ in range(9):
            machine.advance()
        present = machine.holding().present
        self.assertEqual((present[1], present[2]), (present[5], present[6]))
        self.assertEqual(len(set(present)), 5)

    def test_a_used_once_rest(self):
        self.holding("(let ((r none)) (do (once k (do (set r k) 1)) (1 r)))", 0, [], [], (), {3: []})

    def test_a_number_stays(self):
        machine = PiecesMachine(Program("(+ 1 (keep k (mark (do ((fn () 1)) ((fn () 2)) (k 5)))))"))
        numbers = []
        while machine.outcome is None:
            numbers.append([number for number, frames in machine.holding().blocks if frames == (1,)])
            machine.advance()
        self.assertEqual(numbers, [numbers[0]] * 3)
        self.assertEqual(len(numbers[0]), 1)

    def test_a_copied_block_stays_with_its_rest(self):
        machine = PiecesMachine(Program("(let ((r none)) (do (show (keep k (set r k))) ((fn () 1)) (r 2)))"))
        first = machine.holding()
        # The rest has do and show in one block; do is back in the open row behind its return, and gone again.
        self.assertEqual([frames for _, frames in first.blocks], [(2, 3)])
        self.assertEqual((first.present, first.rows[0][1]), ((), (first.blocks[0][0],)))
        machine.advance()
        self.assertEqual(machine.holding().blocks, first.blocks)

    def test_tuples(self):
        machine = PiecesMachine(Program(TEXTS[7]))
        while machine.outcome is None:
            holding = machine.holding()
            for part in (holding.blocks, holding.present, holding.opened, holding.rows):
                self.assertIsInstance(part, tuple)
            self.assertTrue(all(isinstance(item, tuple) and isinstance(item[1], tuple) for item in holding.blocks + holding.rows))
            self.assertEqual(machine.holding(), holding)
            machine.advance()


class Made(Pieces):
    def test_what_it_is(self):
        program = Program("(show (ask)) ((fn () 1))")
        machine = PiecesMachine(program, [7])
        self.assertIsInstance(machine, Machine)
        self.assertEqual((PiecesMachine.KIND, machine.KIND), ("pieces", "pieces"))
        self.assertIs(machine.program, program)
        self.assertEqual((machine.asks, machine.fuel, machine.calls, machine.outcome, machine.asked, machine.shown, machine.copied),
                         ((7,), 2000, 0, None, 1, ("7",), 0))
        other = PiecesMachine.restored(program, [7], machine.standing(), 5)
        self.assertIsInstance(other, PiecesMachine)
        self.assertEqual((other.fuel, other.calls, other.asked, other.shown), (5, 0, 1, ()))
        self.assertEqual(PiecesMachine.restored(program, (7,), machine.standing()).fuel, 2000)

    def test_bad_inputs(self):
        program = Program("1")
        for asks, index in ((None, 0), ("1", 0), ([1, True], 1), ([10 ** 9 + 1], 0), ([0] * 41, 40)):
            for make in (lambda: PiecesMachine(program, asks), lambda: PiecesMachine.restored(program, asks, None)):
                with self.assertRaises(BadAsks) as caught:
                    make()
                self.assertEqual(caught.exception.index, index)

    def test_a_standing_of_another_machine(self):
        for text in TEXTS[:25]:
            program = Program(text)
            pile = PileMachine(program, (1,), 40)
            while pile.outcome is None:
                pieces = PiecesMachine.restored(program, (1,), pile.standing(), 40)
                pile = PileMachine.restored(program, (1,), pieces.standing(), 40)
                pieces.advance()
                pile.advance()
                self.assertEqual((pieces.standing(), pieces.outcome, pieces.shown), (pile.standing(), pile.outcome, pile.shown))

    def test_a_standing_that_no_run_of_the_program_comes_to(self):
        # The births mean other things than in the program's own run up to its first call.
        things = (
            (2, ("fun", 1, ())), (3, ("wait", 0, ())), (4, ("wind", ("fun", 2), ("fun", 2))), (5, ("mark",)),
            (6, ("way", ("to", (3, 4), 1), ("give", 7))), (8, ("keep", (3, 4, 5))), (9, ("piece", (4,))),
            (11, ("way", ("on", (4,)), ("call", ("rest", 9), (("rest", 8),)))), (12, ("wait", 0, ())))
        program = Program("(show (wind (fn () (show 1)) (keep k (k k)) (fn () (show 2))))")
        for frames, callee in (((3, 4, 5, 6, 12), ("rest", 8)), ((3, 5, 11), ("fun", 2)), ((3, 4, 5, 11, 5, 6), ("rest", 9))):
            reach = reached(callee, (), frames, dict(things + ((13, ("pair", ("rest", 8), ("rest", 9))),)))
            standing = Standing(callee, (5,) if callee[0] == "rest" else (), frames, reach, 13, 0, 0, 0)
            plain, other = PlainMachine.restored(program, (), standing), PiecesMachine.restored(program, (), standing)
            while plain.outcome is None:
                self.assertEqual(other.standing(), plain.standing())
                plain.advance()
                other.advance()
            self.assertEqual((other.outcome, other.shown, other.calls), (plain.outcome, plain.shown, plain.calls))


if __name__ == "__main__":
    unittest.main()
