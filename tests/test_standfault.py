"""standfault.py: [13.2] to [13.8]; [13.9] as far as it says what is well."""

import random
import unittest

from makeprograms import good_tree
from makestandings import EASY, well_standing
from writtenprograms import TEXTS

from goonagain.jumpmachine import JumpMachine
from goonagain.piecesmachine import PiecesMachine
from goonagain.pilemachine import PileMachine
from goonagain.plain import PlainMachine
from goonagain.program import Program
from goonagain.rows import place_layouts
from goonagain.standfault import standing_fault
from goonagain.standing import Standing

PROGRAM = Program("(let ((x 1)) (pair ((fn (y) (+ x (y))) 2) (pair x (do (x) (wind (fn () 1) 3 (fn () 2))))))")
ASKS = (5, 6)
# A standing that is well, with things of every word.
THINGS = {
    1: ("pair", 5, ("pair", 1)), 2: ("fun", 1, (("rest", 20),)), 3: ("wait", 2, (1, 2)), 4: ("wait", 3, (1, 2, ("pair", 1))),
    5: ("mark",), 6: ("wind", ("fun", 2), 3), 7: ("wait", 0, (0,)), 8: ("way", ("to", (3, 4, 5, 6), 1), ("give", ("none",))),
    9: ("wind", 1, 2), 10: ("way", ("on", (9,)), ("call", ("rest", 21), (1, ("true",)))), 11: ("way", ("off",), ("call", 3, ())),
    12: ("way", ("out",), ("give", 2)), 20: ("keep", (3, 4, 5, 6, 7)), 21: ("piece", (6, 7)), 22: ("once", (3, 23), 0),
    23: ("pass", 22), 24: ("once", (), 1), 25: ("pass", 24)}
FRAMES = (3, 4, 5, 6, 8, 10, 11, 12, 23, 25)
HANDED = (("fun", 2), ("rest", 21), ("rest", 22), ("pair", 1), ("false",))


class Judged(unittest.TestCase):
    def fault(self, due, things=None, without=(), **parts):
        """The fault of the standing above with other things by birth, without some, or with other parts."""
        told = {birth: thing for birth, thing in THINGS.items() if birth not in without}
        told.update(things or {})
        whole = {"callee": ("rest", 20), "handed": HANDED, "frames": FRAMES, "things": tuple(sorted(told.items())),
                 "born": 30, "calls": 7, "asked": 2, "shown": 4}
        whole.update(parts)
        self.assertEqual(standing_fault(PROGRAM, ASKS, Standing(**whole)), due, (things, parts))


class Well(Judged):
    def test_layouts_of_the_program(self):
        self.assertEqual([body[:2] for body in PROGRAM.bodies], [(0, 0), (1, 1), (0, 0), (0, 0), (0, 0)])
        self.assertEqual([(place[1], layout.outer) for place, layout in zip(PROGRAM.places, place_layouts(PROGRAM))],
                         [(1, -1), (3, -1), (2, -1), (3, 2), (3, 3)])

    def test_well(self):
        self.fault(None)
        self.assertIsNone(standing_fault(PROGRAM, list(ASKS), PlainMachine(PROGRAM, ASKS).standing()))

    def test_what_machines_tell(self):
        for text in TEXTS:
            program = Program(text)
            machines = [kind(program, (1, 2), 60) for kind in (PlainMachine, PileMachine, PiecesMachine, JumpMachine)]
            while machines[0].outcome is None:
                for machine in machines:
                    self.assertIsNone(standing_fault(program, (1, 2), machine.standing()))
                    machine.advance()

    def test_what_random_programs_tell(self):
        many = 0
        for seed in range(400):
            tree = good_tree(seed, deep=6, gentle=True)
            if tree is not None:
                program = Program.of_tree(tree)
                machine = PlainMachine(program, (1,), 40)
                while machine.outcome is None:
                    self.assertIsNone(standing_fault(program, (1,), machine.standing()))
                    many += 1
                    machine.advance()
        self.assertGreater(many, 1000)

    def test_standings_that_no_run_comes_to(self):
        for seed in range(300):
            program = Program((EASY + TEXTS)[seed % (len(EASY) + len(TEXTS))])
            self.assertIsNone(standing_fault(program, ASKS, well_standing(program, ASKS, seed)), seed)

    def test_thousands_of_frames_and_things(self):
        program = Program("(rec ((f (fn (n) (keep k (+ 1 (if (= n 0) (1) (f (- n 1)))))))) (f 1500))")
        machine = PlainMachine(program)
        for _ in range(1501):
            machine.advance()
        self.assertIsNone(standing_fault(program, (), machine.standing()))
        pairs = tuple((birth, ("pair", ("pair", birth + 1), 0)) for birth in range(1, 5000)) + ((5000, ("pair", 1, 2)),)
        self.assertIsNone(standing_fault(program, (), Standing(("pair", 1), (), (), pairs, 5000, 0, 0, 0)))


class Counts(Judged):
    def test_bounds(self):
        for good in (0, 1, 2000):
            self.fault(None, calls=good)
        for bad in (-1, 2001, 10 ** 9, True, False, "1", (1,), None):
            self.fault(("counts", 0), calls=bad)
        for good in (0, 2):
            self.fault(None, asked=good)
        for bad in (-1, 3, 41, True, False):
            self.fault(("counts", 0), asked=bad)
        for good in (0, 10 ** 9):
            self.fault(None, shown=good)
        for good in (25, 10 ** 9):
            self.fault(None, born=good)
        for bad in (-1, 10 ** 9 + 1, True, False):
            self.fault(("counts", 0), shown=bad)
            self.fault(("counts", 0), born=bad)

    def test_ahead_of_all_else(self):
        self.fault(("counts", 0), {26: ("no",)}, asked=3, frames=(99,), born=0, callee=True)

    def test_no_inputs(self):
        standing = Standing(1, (), (), (), 0, 0, 0, 0)
        self.assertIsNone(standing_fault(PROGRAM, (), standing))
        self.assertEqual(standing_fault(PROGRAM, (), Standing(1, (), (), (), 0, 0, 1, 0)), ("counts", 0))


class Births(Judged):
    def births(self, due, *births, born=30):
        things = tuple((birth, ("mark",)) for birth in births)
        standing = Standing(1, (), tuple(births), things, born, 0, 0, 0)
        self.assertEqual(standing_fault(PROGRAM, (), standing), due)

    def test_bounds_and_order(self):
        self.births(None, 1, 2, 30)
        self.births(("birth", 31), 1, 31)
        self.births(("birth", 0), 0, 1)
        self.births(("birth", -5), -5, 1)
        self.births(("birth", 2), 1, 2, 2)
        self.births(("birth", 2), 5, 2, 1)
        self.births(("birth", 25), 1, 25, born=24)
        self.births(("birth", 1), 1, born=0)
        self.births(None, 10 ** 9, born=10 ** 9)

    def test_true_is_no_birth(self):
        self.births(("birth", True), True)
        self.births(("birth", True), True, 2)

    def test_ahead_of_forms(self):
        self.fault(("birth", 31), {1: ("no",), 31: ("mark",)}, callee=True)


class Forms(Judged):
    def bad(self, birth, *things):
        for thing in things:
            self.fault(("thing", birth), {birth: thing})

    def test_words(self):
        self.bad(1, ("no",), ("",), ("Pair", 1, 2), ("rest", (3,)), ("give", 1), ("none",), ("waits", 0, (0,)), ("to", (3,), 0))

    def test_pair_and_wind(self):
        self.bad(1, ("pair",), ("pair", 1), ("pair", 1, 2, 3))
        self.bad(9, ("wind",), ("wind", 1), ("wind", 1, 2, 3))

    def test_fun(self):
        self.fault(None, {2: ("fun", 1, (7,))})
        self.fault(None, {2: ("fun", 4, ())})
        self.bad(2, ("fun",), ("fun", 1), ("fun", 1, (1,), 2), ("fun", 0, ()), ("fun", -1, ()), ("fun", 5, ()), ("fun", True, (1,)), ("fun", 1, ()),
                 ("fun", 1, (1, 2)), ("fun", 2, (1,)), ("fun", 1, 1), ("fun", 1, "a"), ("fun", "1", (1,)), ("fun", (1,), (1,)), ("fun", False, ()))

    def test_wait(self):
        self.fault(None, {7: ("wait", 0, (9,))})
        self.bad(7, ("wait",), ("wait", 0), ("wait", 0, (1,), 2), ("wait", -1, (1,)), ("wait", 5, (1, 2, 3)), ("wait", False, (1,)), ("wait", True, (1, 2, 3)),
                 ("wait", 0, ()), ("wait", 0, (1, 2)), ("wait", 0, 1), ("wait", 0, "a"), ("wait", "0", (1,)))

    def test_rests(self):
        for birth, word in ((20, "keep"), (21, "piece")):
            self.bad(birth, (word,), (word, 3), (word, "a"), (word, True), (word, (3,), 0), (word, (3,), 1))
        self.bad(22, ("once",), ("once", (3, 23)), ("once", (3, 23), 2), ("once", (3, 23), -1), ("once", (3, 23), False), ("once", (), True),
                 ("once", 3, 0), ("once", "", 1), ("once", (), "1"), ("once", (3, 23), 0, 0), ("once", (), (1,)))

    def test_mark_and_pass(self):
        self.bad(5, ("mark", 1), ("mark", ()))
        self.bad(23, ("pass",), ("pass", 22, 22), ("pass", True), ("pass", "22"), ("pass", (22,)))

    def test_way(self):
        give, call = ("give", 1), ("call", 1, ())
        self.bad(8, ("way",), ("way", ("out",)), ("way", ("out",), give, 1), ("way", "out", give), ("way", 1, give), ("way", (), give),
                 ("way", ("no",), give), ("way", (1,), give), ("way", ("out",), "give"), ("way", ("out",), ()), ("way", ("out",), True))
        self.bad(8, ("way", ("out",), call), ("way", ("off",), give), ("way", ("to", (3,), 0), call), ("way", ("out", 1), give), ("way", ("off", ()), call))
        self.bad(8, ("way", ("to",), give), ("way", ("to", (3,)), give), ("way", ("to", 3, 0), give), ("way", ("to", (3,), 0, 0), give),
                 ("way", ("to", (3,), -1), give), ("way", ("to", (3,), True), give), ("way", ("to", (3,), False), give), ("way", ("to", (3,), "0"), give),
                 ("way", ("to", "", 0), give))
        self.bad(8, ("way", ("on",), give), ("way", ("on", 6), give), ("way", ("on", (6,), 1), give), ("way", ("on", "a"), call))
        self.bad(8, ("way", ("out",), ("give",)), ("way", ("out",), ("give", 1, 2)), ("way", ("out",), ("gives", 1)), ("way", ("out",), (1, 1)),
                 ("way", ("off",), ("call", 1)), ("way", ("off",), ("call", 1, 1)), ("way", ("off",), ("call", 1, (), ())), ("way", ("off",), ("call",)),
                 ("way", ("off",), ("calls", 1, ())), ("way", ("off",), ("call", 1, "a")))
        for road in (("on", (6,)), ):
            self.fault(None, {8: ("way", road, give)}, frames=(3, 4, 8, 10, 11, 12, 23, 25))
            self.fault(None, {8: ("way", road, call)}, frames=(3, 4, 8, 10, 11, 12, 23, 25))
        self.fault(None, {8: ("way", ("out",), give)})
        self.fault(None, {8: ("way", ("off",), call)})
        self.fault(None, {8: ("way", ("to", (), 0), give)})

    def test_the_first_one(self):
        self.fault(("thing", 2), {2: ("fun", 0, ()), 7: ("no",), 25: ("mark", 1)})
        # Ahead of what is named.
        self.fault(("thing", 25), {1: ("pair", True, 2), 25: ("pass",)}, callee=True, frames=(99,))


class Values(Judged):
    GOOD = (0, 10 ** 9, -10 ** 9, ("true",), ("false",), ("none",), ("pair", 1), ("fun", 2), ("rest", 20), ("rest", 21), ("rest", 22), ("rest", 24))
    BAD = (10 ** 9 + 1, -10 ** 9 - 1, True, False, "none", "", (), ("maybe",), (1,), (True,), ("pair",), ("true", 1), ("pair", 1, 1), ("pair", 2), ("pair", 20),
           ("fun", 1), ("fun", 20), ("rest", 2), ("rest", 3), ("rest", 23), ("rest", 19), ("pair", 0), ("pair", -1), ("pair", True), ("pair", "1"),
           ("pair", ("pair", 1)), ("keep", 20), ("once", 22), ("wait", 3), (1, 1), (("pair",), 1), ("number", 5))

    def test_the_head(self):
        for value in self.GOOD:
            self.fault(None, callee=value, handed=HANDED + (("rest", 20),))
            self.fault(None, handed=HANDED + (value,))
        for value in self.BAD:
            self.fault(("value", 0), callee=value)
            self.fault(("value", 0), handed=HANDED + (value,))
            self.fault(("value", 0), handed=(value,) + HANDED)

    def test_the_things(self):
        for birth, things in (
            (1, lambda value: (("pair", value, 5), ("pair", 5, value))), (2, lambda value: (("fun", 1, (value,)),)),
            (7, lambda value: (("wait", 0, (value,)),)), (9, lambda value: (("wind", value, 1), ("wind", 1, value))),
            (12, lambda value: (("way", ("out",), ("give", value)), ("way", ("off",), ("call", value, (1,))), ("way", ("off",), ("call", 1, (2, value))))),
        ):
            for value in self.GOOD:
                for thing in things(value):
                    self.fault(None, {birth: thing})
            for value in self.BAD:
                for thing in things(value):
                    self.fault(("value", birth), {birth: thing})

    def test_values_of_a_then_with_a_road(self):
        self.fault(("value", 8), {8: ("way", ("to", (3, 4, 5, 6), 1), ("give", True))})
        self.fault(("value", 10), {10: ("way", ("on", (9,)), ("call", 1, (("rest", 99),)))})
        self.fault(("value", 10), {10: ("way", ("on", (9,)), ("give", "a"))})

    def test_the_head_first(self):
        self.fault(("value", 0), {1: ("pair", True, 5)}, frames=(99,), handed=HANDED + (True,))
        self.fault(("frame", 0), {1: ("pair", True, 5)}, frames=(99,))
        self.fault(("value", 1), {1: ("pair", True, 5), 2: ("fun", 1, (True,))})
        self.fault(("value", 1), {1: ("pair", 5, True), 20: ("keep", (99,))})


class Frames(Judged):
    BAD = (1, 2, 20, 21, 22, 24, 13, 0, -3, 99, True, False, "3", (3,), ("wait", 3), ("rest", 20))

    def test_the_head(self):
        for bad in self.BAD:
            self.fault(("frame", 0), frames=FRAMES + (bad,))
            self.fault(("frame", 0), frames=(bad,) + FRAMES)

    def test_the_things(self):
        for bad in self.BAD:
            self.fault(("frame", 20), {20: ("keep", (3, 4, bad))})
            self.fault(("frame", 21), {21: ("piece", (bad, 6, 7))})
            self.fault(("frame", 22), {22: ("once", (bad, 23), 0)})
            self.fault(("frame", 22), {22: ("once", (3, bad), 0)})
            self.fault(("frame", 24), {24: ("once", (bad,), 1)})
            self.fault(("frame", 8), {8: ("way", ("to", (3, bad), 0), ("give", 1))})
            self.fault(("frame", 10), {10: ("way", ("on", (9, bad)), ("give", 1))})
            self.fault(("frame", 10), {10: ("way", ("on", (bad, 9)), ("give", 1))})

    def test_true_is_no_frame(self):
        for rows in ((((1, ("mark",)),), (True,)), (((1, ("mark",)), (2, ("keep", (True,)))), (1,))):
            things, frames = rows
            standing = Standing(("rest", 2) if len(things) == 2 else 5, (), frames, things, 2, 0, 0, 0)
            self.assertEqual(standing_fault(PROGRAM, (), standing), ("frame", 0 if len(things) == 1 else 2))

    def test_once(self):
        self.fault(None, {22: ("once", (23,), 0)})
        # Not its own pass frame, or not on top, or no frame at all; a used one with frames.
        for row in ((), (3,), (23, 25), (25,), (5,)):
            self.fault(("once", 22), {22: ("once", row, 0)})
        for row in ((3,), (25,), (3, 25)):
            self.fault(("once", 24), {24: ("once", row, 1)})
        self.fault(("once", 24), {24: ("once", (), 0)})
        self.fault(None, {24: ("once", (25,), 0)})
        # Another pass frame that names it is as good.
        self.fault(None, {22: ("once", (3, 26), 0), 26: ("pass", 22)})

    def test_pass(self):
        for bad in (1, 2, 3, 20, 21, 99, 0, -1):
            self.fault(("pass", 25), {25: ("pass", bad)})
        self.fault(None, {25: ("pass", 22)}, without=(24,))

    def test_road(self):
        give = ("give", 1)
        # More than the winds of a road "to".
        for row, most in (((), 0), ((3, 4), 0), ((3, 4, 5, 6), 1), ((6,), 1), ((6, 5, 6), 2)):
            self.fault(None, {8: ("way", ("to", row, most), give)})
            self.fault(("road", 8), {8: ("way", ("to", row, most + 1), give)})
        # A road "on" that begins with no wind, has no frame, or has a mark.
        for row in ((), (7, 9), (3,), (9, 5), (5, 9), (5,), (9, 5, 9)):
            self.fault(("road", 10), {10: ("way", ("on", row), give)})
        # Frames that are not elder than the way.
        self.fault(("road", 8), {8: ("way", ("to", (3, 8), 0), give)})
        self.fault(("road", 8), {8: ("way", ("to", (3, 9), 0), give)})
        self.fault(("road", 8), {8: ("way", ("to", (10, 5, 3), 0), give)})
        self.fault(("road", 8), {8: ("way", ("on", (9,)), give)})
        self.fault(("road", 8), {8: ("way", ("on", (6, 8)), give)})
        # Marks in a road "to" are good.
        self.fault(None, {8: ("way", ("to", (5, 5), 0), give)})

    def test_road_ahead_of_the_values_of_its_then(self):
        self.fault(("road", 8), {8: ("way", ("to", (), 1), ("give", True))})
        self.fault(("frame", 8), {8: ("way", ("to", (99,), 1), ("give", True))})
        self.fault(("road", 10), {10: ("way", ("on", ()), ("call", True, ()))})

    def test_piece(self):
        for row in ((5,), (6, 5), (5, 6), (6, 7, 5, 6)):
            self.fault(("piece", 21), {21: ("piece", row)})
        self.fault(("frame", 21), {21: ("piece", (5, 99))})
        self.fault(None, {21: ("piece", ())})

    def test_in_the_order_of_the_things(self):
        self.fault(("frame", 20), {20: ("keep", (99,)), 21: ("piece", (5,)), 25: ("pass", 3)})
        self.fault(("piece", 21), {21: ("piece", (5,)), 22: ("once", (), 0), 25: ("pass", 3)})
        self.fault(("value", 12), {12: ("way", ("out",), ("give", True)), 20: ("keep", (99,))})


class Rows(Judged):
    def test_order(self):
        self.fault(("order", 3), frames=(3, 4, 3))
        self.fault(("order", 3), frames=(3, 3))
        self.fault(("order", 6), frames=FRAMES + (6,))
        self.fault(("order", 3), frames=(5, 7, 3))
        # Marks may stand anywhere, and what is above or below one.
        self.fault(None, frames=(3, 4, 5, 5, 3, 4, 5, 6, 8, 10, 11, 12, 23, 25, 5, 3))

    def test_order_of_a_way_with_a_road_on(self):
        # Its first frame is 9; it counts for the frame itself, the way's own birth for the frame above it.
        self.fault(("order", 10), frames=(3, 4, 5, 9, 10, 11, 12, 23, 25))
        self.fault(None, frames=(3, 4, 5, 8, 10, 11, 12, 23, 25))
        self.fault(("order", 10), {13: ("wind", 1, 1), 14: ("way", ("on", (13,)), ("give", 1))}, frames=FRAMES[:-2] + (14, 23, 25, 5, 14, 10))
        self.fault(("order", 9), frames=(3, 4, 5, 8, 10, 9))
        self.fault(None, frames=(10, 11, 12, 23, 25, 5, 10, 5, 8))
        # A road "to" counts by the way's own birth.
        self.fault(None, frames=(3, 4, 6, 8, 10, 11, 12, 23, 25))
        self.fault(("order", 8), frames=(9, 8))

    def test_order_in_the_rows_of_things(self):
        self.fault(("order", 3), {20: ("keep", (3, 4, 5, 7, 3))})
        self.fault(("order", 6), {21: ("piece", (7, 6))})
        self.fault(("order", 3), {22: ("once", (7, 3, 23), 0)})
        self.fault(("order", 3), {8: ("way", ("to", (6, 3), 0), ("give", 1))})
        self.fault(("order", 7), {10: ("way", ("on", (9, 7)), ("give", 1))})
        self.fault(("order", 23), {22: ("once", (25, 23), 0)})

    def test_chain(self):
        # 4 waits at a place whose outer one is that of 3.
        for frames in ((4,), (5, 4), (3, 5, 4), (3, 4, 5, 4)):
            self.fault(("chain", 4), frames=frames)
        self.fault(("chain", 4), {3: ("wind", 1, 2)})
        # Another place below, or the right place with another env.
        self.fault(("chain", 4), {3: ("wait", 0, (1,))})
        self.fault(("chain", 4), {3: ("wait", 2, (1, 3))})
        self.fault(("chain", 4), {3: ("wait", 2, (2, 2))})
        self.fault(("chain", 4), {4: ("wait", 3, (("pair", 1), 1, 2))})
        # What its own env has beyond is free.
        self.fault(None, {4: ("wait", 3, (1, 2, ("false",)))})
        # A place without an outer one may stand anywhere.
        self.fault(None, frames=(7, 8, 10, 11, 12, 23, 25, 5, 7, 5, 3, 7))

    def test_chain_of_several(self):
        things = {13: ("wait", 4, (1, 2, ("pair", 1)))}
        self.fault(("chain", 13), things, frames=FRAMES[:8] + (13, 23, 25))
        self.fault(None, things, frames=(3, 4, 13) + FRAMES[2:])
        self.fault(("chain", 13), {13: ("wait", 4, (1, 2, 3))}, frames=(3, 4, 13) + FRAMES[2:])
        self.fault(("chain", 13), things, frames=(3, 13) + FRAMES[2:])

    def test_chain_in_the_rows_of_things(self):
        self.fault(("chain", 4), {20: ("keep", (4, 5, 6, 7))})
        self.fault(("chain", 4), {8: ("way", ("to", (5, 4), 0), ("give", 1))})
        self.fault(("chain", 4), {22: ("once", (3, 5, 4, 23), 0)})
        self.fault(("chain", 4), {21: ("piece", (4, 6, 7))})
        self.fault(("chain", 13), {13: ("wait", 3, (1, 2, 3)), 14: ("way", ("on", (9, 13)), ("give", 1))}, frames=FRAMES[:5] + (14,))

    def test_order_ahead_of_chain(self):
        self.fault(("order", 4), {13: ("wind", 1, 1)}, frames=(13, 4))
        self.fault(("order", 4), frames=(6, 4))
        # Frame by frame: what is lower comes first.
        self.fault(("chain", 4), frames=(5, 4, 3))
        self.fault(("order", 3), frames=(3, 3, 5, 4))

    def test_a_row_wholly_ahead_of_the_next(self):
        self.fault(("chain", 4), {20: ("keep", (7, 6, 3))}, frames=(3, 5, 4))
        self.fault(("order", 3), {8: ("way", ("to", (6, 3), 0), ("give", 1)), 20: ("keep", (4,))})
        self.fault(("order", 7), {10: ("way", ("on", (9, 7)), ("give", 1)), 21: ("piece", (7, 6))})
        self.fault(("chain", 4), {20: ("keep", (4,)), 21: ("piece", (7, 6))})


class Reached(Judged):
    def test_reached(self):
        self.fault(("reached", 26), {26: ("pair", 1, 2)})
        self.fault(("reached", 26), {26: ("pair", ("pair", 27), 2), 27: ("pair", ("pair", 26), 1)})
        self.fault(("reached", 13), {26: ("mark",), 13: ("mark",)})
        self.fault(("reached", 24), frames=FRAMES[:-1])
        self.fault(("reached", 9), handed=HANDED[:1] + HANDED[2:], frames=FRAMES[:5] + FRAMES[6:])
        self.fault(("reached", 21), {10: ("way", ("on", (9,)), ("give", 1))}, handed=HANDED[:1] + HANDED[2:])
        self.fault(("reached", 1), {4: ("wait", 3, (1, 2, 3))}, handed=HANDED[:3])
        self.fault(("reached", 2), {6: ("wind", 1, 3)}, handed=HANDED[1:])

    def test_by_what_things_are_reached(self):
        # The value of a then, its callee and its handed values; the rest of a pass; the frames of roads and rests.
        for thing in (("way", ("out",), ("give", ("pair", 14))), ("way", ("off",), ("call", ("pair", 14), ())), ("way", ("off",), ("call", 1, (2, ("pair", 14))))):
            self.fault(None, {12: thing, 14: ("pair", 1, 2)})
        self.fault(None, {14: ("pair", 1, 2), 9: ("wind", 1, ("pair", 14))})
        self.fault(None, {14: ("pair", 1, 2), 9: ("wind", ("pair", 14), 1)})
        self.fault(None, {13: ("once", (14,), 0), 14: ("pass", 13)}, frames=FRAMES[:8] + (14, 23, 25))

    def test_last_of_all(self):
        self.fault(("order", 3), {26: ("mark",)}, frames=(3, 3))
        self.fault(("chain", 4), {26: ("mark",)}, frames=(4,))


class NeverRaises(Judged):
    JUNK = (0, 1, -1, 5, 25, True, False, "", "pair", "give", (), (1,), (3, 4), (5, 6), ("pair", 1), ("give", 1), ("to", (3,), 0), ("on", (9,)),
            ("off",), ("rest", 20), ("none",), ((),), (("true",),), 10 ** 12)
    WORDS = ("pair", "fun", "wait", "mark", "pass", "wind", "keep", "once", "piece", "way", "no")

    def spoilt(self, item, chance):
        """An item, or a tuple with items, some of which are exchanged, left out or put in."""
        if chance.random() < 0.1:
            return chance.choice(self.JUNK)
        if not isinstance(item, tuple):
            return item
        items = [self.spoilt(one, chance) for one in item]
        if items and chance.random() < 0.1:
            items.pop(chance.randrange(len(items)))
        if chance.random() < 0.05:
            items.append(chance.choice(self.JUNK))
        return tuple(items)

    def spoilt_thing(self, thing, chance):
        items = self.spoilt(thing[1:], chance)
        return (thing[0] if chance.random() < 0.9 else chance.choice(self.WORDS),) + (items if isinstance(items, tuple) else (items,))

    def test_spoilt_standings(self):
        chance = random.Random(3)
        found = {}
        for _ in range(6000):
            things = {birth: self.spoilt_thing(thing, chance) if chance.random() < 0.08 else thing for birth, thing in THINGS.items()}
            if chance.random() < 0.2:
                things[chance.choice((0, 13, 99))] = (chance.choice(self.WORDS),) + tuple(chance.choice(self.JUNK) for _ in range(chance.randint(0, 3)))
            frames = FRAMES if chance.random() < 0.8 else tuple(chance.choice(FRAMES) for _ in range(3))
            parts = [self.spoilt(part, chance) if chance.random() < 0.1 else part for part in (("rest", 20), HANDED, frames)]
            parts[1:] = [part if isinstance(part, tuple) else (part,) for part in parts[1:]]
            counts = [chance.choice((0, 1, -1, 10 ** 12)) if chance.random() < 0.02 else good for good in (30, 7, 2, 4)]
            fault = standing_fault(PROGRAM, ASKS, Standing(*parts, tuple(sorted(things.items())), *counts))
            if fault is not None:
                word, birth = fault
                self.assertIsInstance(word, str)
                self.assertIsInstance(birth, int)
            found[None if fault is None else fault[0]] = True
        self.assertEqual(set(found), {None, "counts", "birth", "thing", "value", "frame", "once", "pass", "road", "piece", "order", "chain", "reached"})


if __name__ == "__main__":
    unittest.main()
