"""alike.py: [13.12] to [13.14]."""

import copy
import unittest

from makeprograms import good_tree
from makestandings import EASY, well_standing
from writtenprograms import TEXTS

from goonagain.alike import closed_standing, renaming_between
from goonagain.meaning import KINDS, restored_machine
from goonagain.plain import PlainMachine
from goonagain.program import Program
from goonagain.standfault import standing_fault
from goonagain.standing import Standing

PROGRAM = Program("(let ((x 1)) (pair ((fn (y) (+ x (y))) 2) (pair x (do (x) (wind (fn () 1) 3 (fn () 2))))))")
# Births and what is to become of them: the ranks of the births among the things.
BEFORE = (3, 10, 20, 21, 22, 30, 31, 40, 41, 50, 51, 52, 53, 60, 61, 62)


def standing_with(names, **parts):
    """A standing whose births are the names of 1, 2, 3 and so on."""
    def b(number):
        return names[number - 1]
    things = (
        (b(1), ("pair", ("rest", b(10)), ("pair", b(1)))), (b(2), ("fun", 1, (("fun", b(2)),))), (b(3), ("wait", 2, (10, ("pair", b(1))))),
        (b(4), ("mark",)), (b(5), ("wind", ("fun", b(2)), ("none",))), (b(6), ("wait", 0, (("rest", b(11)),))),
        (b(7), ("way", ("to", (b(3), b(4), b(5)), 1), ("give", ("rest", b(12))))),
        (b(8), ("wind", ("true",), 3)), (b(9), ("way", ("on", (b(8),)), ("call", ("fun", b(2)), (21, ("pair", b(1)))))),
        (b(10), ("keep", (b(3), b(4), b(5), b(6)))), (b(11), ("piece", (b(5), b(6)))), (b(12), ("once", (b(3), b(13)), 0)),
        (b(13), ("pass", b(12))), (b(14), ("once", (), 1)), (b(15), ("way", ("off",), ("call", ("rest", b(14)), (("rest", b(10)),)))),
        (b(16), ("way", ("out",), ("give", ("fun", b(2))))))
    told = {"callee": ("rest", b(10)), "handed": (22, ("pair", b(1))), "frames": (b(3), b(4), b(5), b(7), b(9), b(13), b(15), b(16)), "things": things,
            "born": 70, "calls": 20, "asked": 2, "shown": 41}
    told.update(parts)
    return Standing(**told)


class Closed(unittest.TestCase):
    def test_written(self):
        before = standing_with(BEFORE)
        self.assertIsNone(standing_fault(PROGRAM, (1, 2), before))
        kept = copy.deepcopy(vars(before))
        self.assertEqual(closed_standing(before), standing_with(tuple(range(1, 17)), born=16))
        self.assertEqual(vars(before), kept)
        self.assertIsNot(closed_standing(before), before)

    def test_counts_stay(self):
        closed = closed_standing(standing_with(BEFORE))
        self.assertEqual((closed.born, closed.calls, closed.asked, closed.shown), (16, 20, 2, 41))

    def test_numbers_stay(self):
        # Numbers of bodies, places, roads and values that look like births are none.
        closed = closed_standing(Standing(7, (7, ("none",)), (7,), ((7, ("wait", 0, (7,))),), 9, 7, 0, 7))
        self.assertEqual(closed, Standing(7, (7, ("none",)), (1,), ((1, ("wait", 0, (7,))),), 1, 7, 0, 7))

    def test_nothing(self):
        self.assertEqual(closed_standing(Standing(("none",), (), (), (), 12, 3, 0, 4)), Standing(("none",), (), (), (), 0, 3, 0, 4))

    def test_twice_is_once_and_it_is_well(self):
        for seed in range(300):
            program = Program((EASY + TEXTS)[seed % (len(EASY) + len(TEXTS))])
            standing = well_standing(program, (4, 5), seed)
            closed = closed_standing(standing)
            self.assertIsNone(standing_fault(program, (4, 5), closed))
            self.assertEqual(closed_standing(closed), closed)
            self.assertEqual([birth for birth, _ in closed.things], list(range(1, len(standing.things) + 1)))
            self.assertEqual(closed.born, len(standing.things))

    def test_what_runs_tell(self):
        for text in TEXTS:
            program = Program(text)
            machine = PlainMachine(program, (1, 2), 40)
            while machine.outcome is None:
                closed = closed_standing(machine.standing())
                self.assertIsNone(standing_fault(program, (1, 2), closed))
                self.assertEqual(closed_standing(closed), closed)
                for part in (closed.handed, closed.frames, closed.things):
                    self.assertIsInstance(part, tuple)
                machine.advance()


class Renaming(unittest.TestCase):
    def test_itself(self):
        standing = standing_with(BEFORE)
        self.assertEqual(renaming_between(standing, standing), tuple((birth, birth) for birth in BEFORE))

    def test_alike(self):
        other = tuple(number * 4 + 1 for number in range(1, 17))
        one, two = standing_with(BEFORE), standing_with(other, born=99)
        self.assertEqual(renaming_between(one, two), tuple(zip(BEFORE, other)))
        self.assertEqual(renaming_between(two, one), tuple(zip(other, BEFORE)))
        self.assertEqual(renaming_between(one, closed_standing(one)), tuple(zip(BEFORE, range(1, 17))))
        self.assertNotEqual(one, two)

    def test_no_things(self):
        one, two = Standing(1, (), (), (), 5, 0, 0, 0), Standing(1, (), (), (), 9, 0, 0, 0)
        self.assertEqual(renaming_between(one, two), ())
        self.assertIsNone(renaming_between(one, Standing(2, (), (), (), 5, 0, 0, 0)))

    def test_unlike_in_one_spot(self):
        base = standing_with(BEFORE)
        things = dict(base.things)
        for birth, other in (
            (3, ("pair", ("rest", 60), ("pair", 3))), (3, ("pair", ("rest", 50), 3)), (10, ("fun", 1, (("rest", 50),))),
            (20, ("wait", 2, (11, ("pair", 3)))), (22, ("wind", ("fun", 10), ("false",))), (22, ("wind", ("none",), ("fun", 10))),
            (31, ("way", ("to", (20, 21, 22), 0), ("give", ("rest", 52)))), (31, ("way", ("to", (20, 21), 1), ("give", ("rest", 52)))),
            (31, ("way", ("to", (20, 21, 22), 1), ("give", ("rest", 51)))), (41, ("way", ("on", (40,)), ("give", 1))),
            (41, ("way", ("on", (22,)), ("call", ("fun", 10), (21, ("pair", 3))))), (41, ("way", ("on", (40,)), ("call", 1, (21, ("pair", 3))))),
            (41, ("way", ("on", (40,)), ("call", ("fun", 10), (21, ("pair", 3), 1)))), (50, ("keep", (20, 21, 22))), (51, ("keep", (22, 30))),
            (52, ("once", (53,), 0)), (53, ("pass", 60)), (60, ("once", (53,), 0)), (61, ("way", ("off",), ("call", ("rest", 50), (("rest", 50),)))),
            (62, ("way", ("out",), ("give", 2))), (21, ("wind", 1, 1)),
        ):
            changed = dict(things)
            changed[birth] = other
            two = standing_with(BEFORE, things=tuple(changed.items()))
            self.assertIsNone(renaming_between(base, two), (birth, other))
            self.assertIsNone(renaming_between(two, base), (birth, other))
        for parts in ({"callee": ("rest", 51)}, {"handed": (22,)}, {"handed": (23, ("pair", 3))}, {"frames": base.frames[:-1]}, {"calls": 21}, {"asked": 1},
                      {"shown": 42}, {"frames": base.frames + (70,), "things": base.things + ((70, ("mark",)),)}):
            self.assertIsNone(renaming_between(base, standing_with(BEFORE, **parts)), parts)
        # How many were born makes no difference.
        self.assertIsNotNone(renaming_between(base, standing_with(BEFORE, born=10 ** 9)))

    def test_alike_standings_run_alike(self):
        many = 0
        for seed in range(160):
            tree = good_tree(seed, deep=6, gentle=True) if seed % 2 else None
            program = Program.of_tree(tree) if tree else Program(EASY[seed % len(EASY)])
            standing = well_standing(program, (4,), seed)
            ones = [restored_machine(kind, program, (4,), standing, 60) for kind in KINDS]
            twos = [restored_machine(kind, program, (4,), closed_standing(standing), 60) for kind in KINDS]
            for _ in range(10):
                for one, two in zip(ones, twos):
                    self.assertEqual((one.outcome, one.shown, one.calls), (two.outcome, two.shown, two.calls))
                    if one.outcome is None:
                        self.assertIsNotNone(renaming_between(one.standing(), two.standing()))
                        many += 1
                    one.advance()
                    two.advance()
        self.assertGreater(many, 800)


if __name__ == "__main__":
    unittest.main()
