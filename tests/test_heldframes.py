"""heldframes.py and counts.py: [10.1] to [10.5], [10.7], the example of [10.10]."""

import unittest

from makeprograms import good_tree
from writtenprograms import TEXTS

from goonagain.counts import Count, count_calls
from goonagain.heldframes import count_beginnings, held_frames, most_held, reached_rows
from goonagain.machine import run_seen
from goonagain.piecesmachine import PiecesMachine
from goonagain.plain import PlainMachine
from goonagain.program import Program
from goonagain.segments import Holding
from goonagain.standing import Standing


def standing_with(frames, *things):
    return Standing(1, (), frames, things, 99, 0, 0, 0)


class Rows(unittest.TestCase):
    def rows(self, standing, rows, beginnings):
        self.assertEqual(reached_rows(standing), rows)
        self.assertEqual(count_beginnings(standing), beginnings)
        self.assertEqual(most_held(standing), beginnings + 3 * (len(rows) - 1))
        self.assertTrue(all(isinstance(row, tuple) for row in reached_rows(standing)))

    def test_example_10_10(self):
        standing = PlainMachine(Program("(+ 1 (keep k (k 5)))")).standing()
        self.rows(standing, ((1,), (1,)), 1)
        self.assertEqual(most_held(standing), 4)

    def test_the_present_frames_alone(self):
        self.rows(standing_with(()), ((),), 0)
        self.rows(standing_with((1, 2, 3)), ((1, 2, 3),), 3)
        self.rows(standing_with((1, 2), (1, ("wait", 0, ())), (2, ("mark",)), (3, ("pair", 1, 2)), (4, ("fun", 0, ()))), ((1, 2),), 2)

    def test_rests_of_the_three_words(self):
        self.rows(standing_with((1, 2), (3, ("keep", (1,))), (4, ("once", (1, 5), 0)), (6, ("piece", (2,)))),
                  ((1, 2), (1,), (1, 5), (2,)), 4)

    def test_used_and_empty_rests(self):
        self.rows(standing_with((), (3, ("once", (), 1)), (4, ("keep", ())), (5, ("piece", ()))), ((), (), (), ()), 0)

    def test_roads(self):
        give, call = ("give", 1), ("call", 1, ())
        self.rows(standing_with((9,), (5, ("way", ("to", (1, 2), 0), give)), (6, ("way", ("on", (3, 4)), call)),
                                (7, ("way", ("off",), call)), (8, ("way", ("out",), give)), (9, ("way", ("to", (), 0), give))),
                  ((9,), (1, 2), (3, 4), ()), 5)

    def test_ascending_by_births(self):
        self.rows(standing_with((8,), (2, ("keep", (1,))), (3, ("way", ("on", (5,)), ("give", 1))), (7, ("piece", (4,)))),
                  ((8,), (1,), (5,), (4,)), 4)

    def test_equal_rows(self):
        self.rows(standing_with((1, 2, 3), (4, ("keep", (1, 2, 3))), (5, ("keep", (1, 2, 3)))), ((1, 2, 3),) * 3, 3)

    def test_beginnings(self):
        # The same births in the same order, of whichever rows.
        self.rows(standing_with((1, 2, 3), (4, ("keep", (1, 2))), (5, ("keep", (2, 1))), (6, ("keep", (1, 3)))),
                  ((1, 2, 3), (1, 2), (2, 1), (1, 3)), 6)
        self.rows(standing_with((1, 1, 1)), ((1, 1, 1),), 3)
        self.rows(standing_with((1, 2), (5, ("piece", (2,)))), ((1, 2), (2,)), 3)

    def test_long_rows(self):
        frames = tuple(range(1, 9001))
        self.rows(standing_with(frames, (9001, ("keep", frames)), (9002, ("keep", frames[:-1]))), (frames, frames, frames[:-1]), 9000)

    def test_lists(self):
        self.rows(standing_with([1, 2], (3, ("keep", [1, 4]))), ((1, 2), (1, 4)), 3)

    def test_of_many_standings(self):
        for seed in range(80):
            tree = good_tree(seed, deep=5, gentle=True)
            if tree is None:
                continue
            machine = PlainMachine(Program.of_tree(tree), (), 20)
            while machine.outcome is None:
                standing = machine.standing()
                rows = reached_rows(standing)
                self.assertEqual(rows[0], standing.frames)
                self.assertEqual(count_beginnings(standing), len({row[:many] for row in rows for many in range(1, len(row) + 1)}))
                machine.advance()


class Held(unittest.TestCase):
    def test_blocks_and_the_open_row(self):
        self.assertEqual(held_frames(Holding((), (), (), ())), 0)
        self.assertEqual(held_frames(Holding(((1, (1,)),), (1,), (3,), ((2, (1,)),))), 2)
        self.assertEqual(held_frames(Holding(((1, (1, 2, 3)), (5, (4,)), (9, (6, 7, 8, 9))), (1, 5), (10, 11), ())), 10)
        # A block counts once, however often it stands in rows.
        self.assertEqual(held_frames(Holding(((4, (1, 2)),), (4, 4, 4), (), ((9, (4, 4)),))), 2)


class Counts(unittest.TestCase):
    def test_by_hand(self):
        # Call 0: block (1) and the open row (3); the rows (1, 3) and (1).
        self.assertEqual(count_calls(PiecesMachine(Program("(+ 1 (keep k (do (k 5) 6)))"))), (Count(0, 2, 2, 2, 0),))
        self.assertEqual(count_calls(PiecesMachine(Program("(+ 1 ((fn () (+ 2 ((fn () 3))))))"))), (Count(0, 1, 1, 1, 0), Count(1, 2, 2, 1, 0)))
        # At call 0 the copied frame has gone on and is gone; its block is held by the rest.
        self.assertEqual(count_calls(PiecesMachine(Program(
            "(let ((r none) (n 0)) (do (keep k (set r k)) (set n (+ n 1)) (if (< n 3) (r n) (show n))))"))),
            (Count(0, 1, 1, 2, 1), Count(1, 1, 1, 2, 2)))

    def test_at_an_outcome(self):
        self.assertEqual(count_calls(PiecesMachine(Program("(show 1)"))), ())
        machine = PiecesMachine(Program("((fn () 1))"), (), 0)
        machine.advance()
        self.assertEqual(count_calls(machine), ())

    def test_of_a_run(self):
        for text in TEXTS:
            program = Program(text)
            counts = count_calls(PiecesMachine(program, (1, 2), 40))
            machine = PiecesMachine(program, (1, 2), 40)
            found = []
            while machine.outcome is None:
                standing = machine.standing()
                found.append(Count(machine.calls, held_frames(machine.holding()), count_beginnings(standing),
                                   len(reached_rows(standing)), machine.copied))
                machine.advance()
            self.assertEqual(counts, tuple(found))
            self.assertIsInstance(counts, tuple)
            for count in counts:
                self.assertLessEqual(count.held, count.beginnings + 3 * (count.rows - 1))

    def test_the_machine_comes_to_its_outcome(self):
        program = Program("(let ((r none) (n 0)) (do (keep k (set r k)) (set n (+ n 1)) (if (< n 4) (r n) (show n))))")
        machine = PiecesMachine(program)
        counts = count_calls(machine)
        self.assertEqual((machine.outcome, machine.shown, machine.calls, machine.copied), (("end",), ("4",), 3, 4))
        # From amid a run, and of a restored machine, which begins to count copies anew.
        machine = PiecesMachine(program)
        machine.advance()
        standing = machine.standing()
        self.assertEqual(count_calls(machine), counts[1:])
        other = PiecesMachine.restored(program, (), standing)
        self.assertEqual([(count.calls, count.copied) for count in count_calls(other)], [(1, 0), (2, 1)])
        self.assertEqual(run_seen(other).end, ("end",))

    def test_count_keeps_what_it_is_given(self):
        parts = (1, [2], None, "x", {})
        count = Count(*parts)
        for name, part in zip(("calls", "held", "beginnings", "rows", "copied"), parts):
            self.assertIs(getattr(count, name), part)
        self.assertTrue(count == Count(*parts))
        for at in range(5):
            other = list(parts)
            other[at] = 77
            self.assertFalse(count == Count(*other))
            self.assertTrue(count != Count(*other))
        self.assertFalse(count == parts)


if __name__ == "__main__":
    unittest.main()
