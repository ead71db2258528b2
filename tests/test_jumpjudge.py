"""jumpjudge.py: [11.5], [11.6]."""

import random
import unittest

from makecodes import with_dead_cells, with_gaps, with_parts_mixed
from makeprograms import good_tree
from writtenprograms import TEXTS

from goonagain.jumpcode import JumpCode, compiled_jumps
from goonagain.jumpjudge import jump_fault
from goonagain.program import Program

# 0 value 0 1, 1 save 0, 2 keep 1, 3 value 2 5, 4 call 1 (2), 5 op 2 + (0 1), 6 back 2
KEEP = Program("(+ 1 (keep k (k 5)))")
# 0 ask 0, 1 unless 0 5, 2 value 0 1, 3 show 0 0, 4 back 0, 5 value 0 2, 6 call 0 ()
IF = Program("(if (ask) (show 1) (2))")
# 0 fun 0 1 (), 1 back 0, 2 back 0
FUN = Program("(fn (x) x)")
# 0 rec 0 ((1 (1)) (2 (0))), 1 call 0 (1), 2 back 0, 3 back 0
REC = Program("(rec ((f (fn () g)) (g (fn () f))) (f g))")
# 0 value 0 9, 1 fun 1 1 (), 2 fun 2 3 (0), 3 fun 3 2 (), 4 wind 1 2 3, then the bodies
WIND = Program("(let ((x 9)) (wind (fn () 1) x (fn () 2)))")


class Judged(unittest.TestCase):
    def changed(self, program, due, rows=None, starts=None, returns=None):
        """The fault of the compiled code with other instructions by address, or other addresses."""
        code = compiled_jumps(program)
        instructions = list(code.rows)
        for address, row in (rows or {}).items():
            instructions[address] = row
        code = JumpCode(tuple(instructions), code.starts if starts is None else starts, code.returns if returns is None else returns)
        self.assertEqual(jump_fault(program, code), due)

    def fault(self, program, due, rows, starts=(0,), returns=()):
        self.assertEqual(jump_fault(program, JumpCode(tuple(rows), starts, returns)), due)


class Counts(Judged):
    def test_starts(self):
        for starts in ((), (0, 0), (0,) * 9):
            self.changed(KEEP, ("starts", len(starts)), starts=starts)
        self.changed(FUN, ("starts", 1), starts=(0,))

    def test_returns(self):
        for returns in ((), (5, 5)):
            self.changed(KEEP, ("returns", len(returns)), returns=returns)

    def test_starts_come_first(self):
        self.changed(KEEP, ("starts", 0), starts=(), returns=())
        self.changed(KEEP, ("returns", 3), {0: ("back", 9)}, starts=(99,), returns=(9, 9, 9))


class Addresses(Judged):
    def test_of_bodies(self):
        for bad in (-1, 7, 8, 10 ** 9):
            self.changed(KEEP, ("start", 0), starts=(bad,))
        self.changed(FUN, ("start", 1), starts=(0, 3))
        self.changed(FUN, ("start", 0), starts=(-1, -1))

    def test_of_places(self):
        for bad in (-1, 7, 10 ** 9):
            self.changed(KEEP, ("return", 0), returns=(bad,))
        program = Program("(do (1) (2) 3)")
        code = compiled_jumps(program)
        self.changed(program, ("return", 1), returns=(code.returns[0], -1))

    def test_when_the_walk_comes_to_it(self):
        # The fault of a body stands ahead of the next body's address, that of a body ahead of a place's.
        self.changed(FUN, ("cell", 1), {1: ("back", 1)}, starts=(0, 99))
        self.changed(KEEP, ("step", 2), {2: ("once", 1)}, returns=(99,))

    def test_no_rows(self):
        self.fault(Program("1"), ("start", 0), ())


class Words(Judged):
    def test_end(self):
        self.fault(Program("1"), ("end", 1), [("value", 0, 1)])
        self.fault(Program("1"), ("end", 2), [("value", 0, 1), ("copy", 1, 0)])
        self.fault(Program("(show 1)"), ("end", 2), [("value", 0, 1), ("show", 0, 0)])
        self.changed(IF, ("end", 7), {6: ("value", 0, 2)})

    def test_cells_that_are_read(self):
        for bad in (-1, 1, 2, 99):
            self.fault(Program("1"), ("cell", 1), [("value", 0, 1), ("back", bad)])
            self.fault(Program("1"), ("cell", 1), [("value", 0, 1), ("copy", 0, bad), ("back", 0)])
            self.fault(Program("(show 1)"), ("cell", 1), [("value", 0, 1), ("show", 0, bad), ("back", 0)])
            self.changed(IF, ("cell", 1), {1: ("unless", bad, 5)})
        for bad in ((2, 1), (0, 2), (0, -1), (0, 1, 2), (7,)):
            self.changed(KEEP, ("cell", 5), {5: ("op", 2, "+", bad)})
        self.changed(KEEP, ("cell", 4), {4: ("call", 3, (2,))})
        self.changed(KEEP, ("cell", 4), {4: ("call", 1, (2, -1))})
        self.changed(WIND, ("cell", 2), {2: ("fun", 2, 3, (2,))})
        for bad in ((4, 2, 3), (1, 4, 3), (1, 2, 4), (1, 2, -1)):
            self.changed(WIND, ("cell", 4), {4: ("wind",) + bad})
        self.changed(Program("(take k 1)"), ("cell", 1), {1: ("take", 1)})

    def test_cells_that_are_written(self):
        for bad in (-1, 1, 5):
            self.fault(Program("1"), ("cell", 0), [("value", bad, 1), ("back", 0)])
            self.fault(Program("(ask)"), ("cell", 0), [("ask", bad), ("back", 0)])
            self.changed(FUN, ("cell", 0), {0: ("fun", bad, 1, ())})
            self.changed(REC, ("cell", 0), {0: ("rec", bad, ((1, (1,)), (2, (0,))))})
        for bad in (-1, 3):
            self.changed(KEEP, ("cell", 3), {3: ("value", bad, 5)})
            self.changed(KEEP, ("cell", 5), {5: ("op", bad, "+", (0, 1))})
        for word in ("keep", "once"):
            self.changed(Program(f"({word} k k)"), ("cell", 0), {0: (word, 1)})
        self.changed(IF, ("cell", 3), {3: ("show", 2, 0)})
        self.fault(Program("(let ((x 1)) x)"), ("cell", 1), [("value", 0, 1), ("copy", 2, 0), ("back", 0)])

    def test_what_is_read_is_read_before_cells_are_dropped(self):
        self.fault(Program("(let ((x 1) (y 2)) (show y))"), None,
                   [("value", 0, 1), ("value", 1, 2), ("show", 0, 1), ("back", 0)])
        # The cells from the written one on are gone.
        self.fault(Program("(let ((x 1) (y 2)) (do (show y) y))"), ("cell", 3),
                   [("value", 0, 1), ("value", 1, 2), ("show", 0, 1), ("back", 1)])

    def test_the_written_cells_of_rec_count_as_there(self):
        self.changed(REC, None)
        self.changed(REC, ("cell", 0), {0: ("rec", 0, ((1, (2,)), (2, (0,))))})
        self.changed(REC, ("step", 0), {0: ("rec", 0, ((1, (0,)), (2, (0,))))})
        self.changed(REC, ("cell", 0), {0: ("rec", 0, ((1, (1,)), (2, (-1,))))})
        # Captured cells are looked up behind the funs: cell 0 is the first of them, no longer what lay there.
        program = Program("(let ((x 1)) (rec ((f (fn () x))) (f)))")
        self.changed(program, None)
        self.changed(program, ("step", 1), {1: ("rec", 0, ((1, (0,)),))})

    def test_save(self):
        for bad in (-1, 1, 99):
            self.changed(KEEP, ("step", 1), {1: ("save", bad)})
        # A place that is there, but wider than the cells.
        program = Program("(do (1) (2) 3)")
        self.changed(program, ("cell", 0), {0: ("save", 1)})
        # No such place comes ahead of too few cells.
        self.changed(program, ("step", 0), {0: ("save", 2)})
        # Another place of the same width.
        program = Program("(if (ask) (show (1)) (left (2)))")
        rows = compiled_jumps(program).rows
        self.assertEqual((rows[2], rows[5]), (("save", 0), ("save", 1)))
        self.changed(program, ("step", 2), {2: ("save", 1)})
        # The right place, but its env lies in other cells.
        program = Program("(let ((x 1) (y 2)) (+ x (y)))")
        self.assertEqual(compiled_jumps(program).rows[:4], (("value", 0, 1), ("value", 1, 2), ("copy", 2, 0), ("save", 0)))
        self.changed(program, ("step", 3), {2: ("copy", 2, 1)})
        self.changed(program, ("step", 3), {0: ("value", 0, 2)})

    def test_jump(self):
        for bad in (-1, 0, 1, 7, 99):
            self.changed(IF, ("jump", 1) if bad != 0 else ("jump", 1), {1: ("jump", bad)})
        self.changed(IF, ("jump", 2), {2: ("jump", 2)})
        self.changed(IF, ("jump", 4), {4: ("jump", 3)})
        # To the next instruction a jump may go.
        self.fault(Program("1"), None, [("jump", 1), ("value", 0, 1), ("jump", 4), ("jump", 0), ("back", 0)])

    def test_unless(self):
        for bad in (-1, 0, 1, 7, 99):
            self.changed(IF, ("jump", 1), {1: ("unless", 0, bad)})
            # Behind cell and step.
            self.changed(IF, ("cell", 1), {1: ("unless", 1, bad)})
            self.changed(IF, ("step", 2), {1: ("value", 1, 3), 2: ("unless", 1, bad)})
        self.changed(Program("(show 1)"), ("step", 1), {1: ("unless", 0, 0)})

    def test_step(self):
        for text in TEXTS[:25]:
            program = Program(text)
            rows = compiled_jumps(program).rows
            for address, row in enumerate(rows):
                # Instructions without cells that are no step here.
                for other in (("mark",), ("ask", 0)):
                    if row[0] in ("value", "copy", "save", "mark", "ask"):
                        continue
                    self.changed(program, ("step", address), {address: other})

    def test_details_of_steps(self):
        for other in (("op", 2, "-", (0, 1)), ("op", 2, "+", (1, 0)), ("op", 2, "+", (0, 0)), ("op", 2, "+", (0,)), ("op", 2, "+", (0, 1, 1)),
                      ("op", 2, "+", ()), ("show", 2, 0), ("back", 0)):
            self.changed(KEEP, ("step", 5), {5: other})
        self.changed(KEEP, ("step", 6), {6: ("back", 1)})
        self.changed(KEEP, ("step", 4), {4: ("call", 1, ())})
        self.changed(KEEP, ("step", 4), {4: ("call", 2, (1,))})
        self.changed(KEEP, ("step", 4), {4: ("call", 1, (0,))})
        self.changed(KEEP, ("step", 4), {3: ("value", 2, 6)})
        self.changed(KEEP, ("step", 4), {3: ("value", 2, ("none",))})
        self.changed(KEEP, ("step", 1), {0: ("value", 0, 2)})
        self.changed(KEEP, ("step", 2), {2: ("once", 1)})
        self.changed(FUN, ("step", 0), {0: ("fun", 0, 0, ())})
        self.changed(WIND, ("step", 4), {4: ("wind", 1, 3, 2)})
        self.changed(WIND, ("step", 4), {4: ("wind", 3, 2, 1)})
        self.changed(WIND, ("step", 2), {2: ("fun", 2, 3, (1,))})
        self.changed(WIND, ("step", 2), {2: ("fun", 2, 3, ())})
        self.changed(REC, ("step", 0), {0: ("rec", 0, ((2, (1,)), (1, (0,))))})
        self.changed(REC, ("step", 0), {0: ("rec", 0, ((1, (1,)), (2, (0, 0))))})

    def test_two_values_that_look_alike(self):
        # Two inputs are two steps: they may not change places, nor one be read twice.
        program = Program("(- (ask) (ask))")
        self.changed(program, None)
        self.changed(program, ("step", 2), {2: ("op", 0, "-", (1, 0))})
        self.changed(program, ("step", 2), {2: ("op", 0, "-", (0, 0))})
        # Two equal literals are one name.
        program = Program("(- 1 1)")
        self.changed(program, None, {2: ("op", 0, "-", (0, 0))})
        # A literal is not the slot that holds the same.
        program = Program("(fn (x) (- x 1))")
        self.changed(program, ("step", 3), {3: ("op", 1, "-", (0, 0))})

    def test_values_from_ahead_of_a_branch(self):
        # In either branch the two inputs are unlike: that ahead of the test, and that behind it.
        program = Program("(let ((a (ask))) (if a (- a (ask)) (- a (ask))))")
        # 0 ask 0, 1 unless 0 5, 2 ask 1, 3 op 1 - (0 1), 4 back 1, 5 ask 1, 6 op 1 - (0 1), 7 back 1
        self.changed(program, None)
        for address in (3, 6):
            for cells in ((0, 0), (1, 1), (1, 0)):
                self.changed(program, ("step", address), {address: ("op", 1, "-", cells)})

    def test_one_step_too_many_or_too_few(self):
        self.fault(Program("(show 1)"), ("step", 1), [("value", 0, 1), ("back", 0)])
        self.fault(Program("1"), ("step", 1), [("value", 0, 1), ("show", 0, 0), ("back", 0)])
        self.fault(Program("(show (show 1))"), ("step", 2), [("value", 0, 1), ("show", 0, 0), ("back", 0)])


class Order(Judged):
    def test_cell_ahead_of_step(self):
        self.changed(KEEP, ("cell", 5), {5: ("show", 2, 9)})
        self.changed(KEEP, ("cell", 2), {2: ("ask", 7)})
        self.changed(KEEP, ("cell", 4), {4: ("take", -1)})

    def test_bodies_ahead_of_places(self):
        self.changed(KEEP, ("step", 2), {5: ("mark",), 2: ("mark",)})
        self.changed(KEEP, ("step", 5), {5: ("mark",)})

    def test_ascending(self):
        program = Program("(do (1) (2) (fn (x) x))")
        code = compiled_jumps(program)
        self.assertEqual((code.starts, code.returns), ((0, 3), (4, 7)))
        self.changed(program, ("start", 1), {4: ("mark",)}, starts=(0, -1))
        self.changed(program, ("step", 4), {4: ("mark",)}, returns=(4, -1))
        self.changed(program, ("return", 0), {7: ("mark",)}, returns=(-1, 7))

    def test_behind_an_unless_the_rows_behind_it_first(self):
        self.changed(IF, ("step", 4), {4: ("mark",), 6: ("mark",)})
        self.changed(IF, ("step", 6), {6: ("mark",)})
        nested = Program("(if 1 (if 2 3 4) (if 5 6 7))")
        # 0 value, 1 unless 8, 2 value, 3 unless 6, 4 value, 5 back, 6 value, 7 back, 8 value, 9 unless, ..
        self.changed(nested, ("step", 7), {7: ("mark",), 9: ("mark",)})
        self.changed(nested, ("jump", 3), {3: ("unless", 0, 3), 9: ("mark",)})
        self.changed(nested, ("step", 7), {7: ("mark",), 9: ("unless", 0, 9)})
        self.changed(nested, ("jump", 9), {9: ("unless", 0, 9)})


class OtherCodes(Judged):
    """Codes that fit, though they are put together otherwise."""

    def test_parts_in_another_order(self):
        rows = compiled_jumps(KEEP).rows
        self.fault(KEEP, None, rows[5:] + rows[:5], (2,), (0,))
        self.fault(FUN, None, [("back", 0), ("fun", 0, 1, ()), ("back", 0)], (1, 0))
        # Parts that share instructions.
        self.fault(FUN, None, [("fun", 0, 1, ()), ("back", 0)], (0, 1))

    def test_jumps(self):
        self.fault(KEEP, None, [
            ("jump", 2), ("mark",), ("value", 0, 1), ("jump", 5), ("jump", 0), ("save", 0), ("jump", 8), ("back", 0), ("keep", 1),
            ("value", 2, 5), ("jump", 12), ("once", 3), ("call", 1, (2,)), ("jump", 14), ("op", 2, "+", (0, 1)), ("back", 2)], (0,), (13,))

    def test_dead_rows(self):
        for row in (("jump", 0), ("back", 99), ("value", -5, 1), ("save", 99)):
            code = compiled_jumps(IF)
            self.fault(IF, None, code.rows + (row,))

    def test_dead_cells_and_copies(self):
        # Values lie in other cells than the compiled ones; some are written and never read.
        self.fault(KEEP, None, [
            ("value", 0, 1), ("value", 1, 77), ("save", 0), ("keep", 2), ("value", 3, 5), ("copy", 4, 2), ("copy", 5, 4), ("call", 5, (3,)),
            ("copy", 2, 1), ("copy", 3, 0), ("op", 1, "+", (3, 2)), ("copy", 0, 1), ("back", 0)], (0,), (8,))
        # A cell may be written over when nothing reads it any more.
        self.fault(KEEP, None, [
            ("value", 0, 1), ("save", 0), ("keep", 0), ("value", 1, 5), ("call", 0, (1,)), ("op", 0, "+", (0, 1)), ("back", 0)], (0,), (5,))
        # A value read from a copy is the same value, however often it was copied.
        self.fault(Program("(let ((x (ask))) (pair x x))"), None,
                   [("ask", 0), ("copy", 1, 0), ("copy", 2, 1), ("op", 3, "pair", (2, 1)), ("back", 3)])

    def test_literals_may_be_written_again(self):
        self.fault(Program("(let ((x 5)) (pair x x))"), None,
                   [("value", 0, 5), ("value", 1, 5), ("op", 2, "pair", (1, 1)), ("back", 2)])
        self.fault(Program("(let ((x 5)) (pair x x))"), None, [("value", 0, 5), ("op", 0, "pair", (0, 0)), ("back", 0)])

    def test_branches_that_meet(self):
        program = Program("(if (ask) 1 1)")
        self.fault(program, None, [("ask", 0), ("unless", 0, 2), ("value", 0, 1), ("back", 0)])
        self.fault(program, None, [("ask", 0), ("value", 1, 1), ("unless", 0, 5), ("back", 1), ("mark",), ("copy", 0, 1), ("back", 0)])

    def test_lists_are_as_good(self):
        code = compiled_jumps(KEEP)
        self.assertIsNone(jump_fault(KEEP, JumpCode(list(code.rows), list(code.starts), list(code.returns))))
        rows = [tuple(list(item) if isinstance(item, tuple) and row[0] != "value" else item for item in row) for row in code.rows]
        self.assertIn(("call", 1, [2]), rows)
        self.assertIsNone(jump_fault(KEEP, JumpCode(rows, code.starts, code.returns)))

    def test_code_of_another_program(self):
        self.assertEqual(jump_fault(Program("(+ 1 (keep k (k 6)))"), compiled_jumps(KEEP)), ("step", 4))
        self.assertEqual(jump_fault(Program("2"), compiled_jumps(Program("1"))), ("step", 1))
        self.assertEqual(jump_fault(Program("(let ((x 1)) x)"), compiled_jumps(Program("1"))), None)

    def test_random_rearrangements(self):
        chance = random.Random(4)
        for seed in range(60):
            tree = good_tree(seed, deep=5)
            if tree is None:
                continue
            program = Program.of_tree(tree)
            code = compiled_jumps(program)
            for _ in range(3):
                self.assertIsNone(jump_fault(program, with_gaps(code, chance)))
                self.assertIsNone(jump_fault(program, with_parts_mixed(code, chance)))
                self.assertIsNone(jump_fault(program, with_dead_cells(program, chance)))


if __name__ == "__main__":
    unittest.main()
