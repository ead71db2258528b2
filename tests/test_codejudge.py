"""codejudge.py: [7.4], [7.5]."""

import unittest

from writtenprograms import TEXTS

from goonagain.codejudge import code_fault
from goonagain.compiler import compiled_code
from goonagain.program import Program
from goonagain.rows import Code

# 0 value 1, 1 wait 0, 2 keep 2, 3 slot 2, 4 value 5, 5 call 1 2, 6 slot 0, 7 slot 1, 8 op + 2, 9 give 0
KEEP = Program("(+ 1 (keep k (k 5)))")
# 0 ask, 1 unless 5, 2 value 1, 3 show, 4 give 0, 5 value 2, 6 call 0 0
IF = Program("(if (ask) (show 1) (2))")
# 0 fun 1 (), 1 give 0, 2 slot 0, 3 give 0
FUN = Program("(fn (x) x)")


class Judged(unittest.TestCase):
    def fault(self, program, code, due):
        found = code_fault(program, code)
        self.assertEqual(found, due)
        if due is not None:
            self.assertIsInstance(found, tuple)

    def changed(self, program, due, rows=None, places=None, bodies=None):
        """The fault of the compiled code with other instructions by address, or other addresses."""
        code = compiled_code(program)
        instructions = list(code.rows)
        for address, row in (rows or {}).items():
            instructions[address] = row
        self.fault(program, Code(tuple(instructions), code.places if places is None else places,
                                 code.bodies if bodies is None else bodies), due)


class Counts(Judged):
    def test_places(self):
        for places in ((), (6, 6), (0,) * 5):
            self.changed(KEEP, ("places", len(places)), places=places)
        self.changed(IF, ("places", 1), places=(0,))

    def test_bodies(self):
        for bodies in ((), (0, 0), (0,) * 7):
            self.changed(KEEP, ("bodies", len(bodies)), bodies=bodies)
        self.changed(FUN, ("bodies", 1), bodies=(0,))

    def test_places_come_first(self):
        self.changed(KEEP, ("places", 0), places=(), bodies=())
        self.changed(KEEP, ("places", 2), places=(99, 99), bodies=(99, 99))
        self.changed(KEEP, ("bodies", 2), {0: "x"}, places=(99,), bodies=(99, 99))


class Addresses(Judged):
    def test_of_bodies_and_places(self):
        for bad in (-1, 10, 11, 10 ** 9, True, False, None, "0", (0,), 0.0, 6.0):
            self.changed(KEEP, ("address", bad), bodies=(bad,))
            self.changed(KEEP, ("address", bad), places=(bad,))

    def test_of_jumps(self):
        for bad in (-1, 10, None, True, "x", (1,), [1]):
            self.changed(KEEP, ("address", bad), {2: ("jump", bad)})
            # Behind several jumps the number is the one that is no address.
            self.changed(FUN, ("address", 4 if bad == 10 else bad), {1: ("jump", 2), 2: ("jump", 4 if bad == 10 else bad)})

    def test_of_a_second_branch(self):
        for bad in (-1, 7, None, True, "x", (), [0]):
            self.changed(IF, ("address", bad), {1: ("unless", bad)})
            # It is looked at when the walk comes to it: the first branch is looked at before.
            self.changed(IF, ("row", 3), {1: ("unless", bad), 3: ("ask",)})

    def test_behind_the_last_instruction(self):
        code = Code((("value", 1),), (), (0,))
        self.fault(Program("1"), code, ("address", 1))
        self.fault(Program("(show 1)"), Code((("value", 1), ("show",)), (), (0,)), ("address", 2))
        self.fault(Program("1"), Code((), (), (0,)), ("address", 0))


class Rings(Judged):
    def test_rings(self):
        one = Program("1")
        self.fault(one, Code((("jump", 0),), (), (0,)), ("ring", 0))
        self.fault(one, Code((("jump", 1), ("jump", 0)), (), (0,)), ("ring", 0))
        # A way that comes into a ring from outside: the number is where the way began.
        self.fault(one, Code((("jump", 1), ("jump", 2), ("jump", 1)), (), (0,)), ("ring", 0))
        self.fault(one, Code((("jump", 1), ("jump", 2), ("jump", 2)), (), (0,)), ("ring", 0))

    def test_a_way_begins_anew_for_each_instruction(self):
        self.fault(Program("1"), Code((("value", 1), ("jump", 1)), (), (0,)), ("ring", 1))
        self.fault(Program("(show 1)"), Code((("jump", 2), ("jump", 1), ("value", 1), ("show",), ("jump", 1)), (), (0,)), ("ring", 4))
        # The same jumps may be gone along for one instruction after another.
        self.fault(Program("(+ 1 1)"), Code((
            ("jump", 1), ("value", 1), ("jump", 3), ("value", 1), ("op", "+", 2), ("give", 0)), (), (0,)), None)
        two = Program("(fn () (fn () 1))")
        self.fault(two, Code((("fun", 1, ()), ("jump", 6), ("fun", 2, ()), ("jump", 6), ("value", 1), ("jump", 6), ("give", 0)),
                             (), (0, 2, 4)), None)

    def test_of_a_second_branch(self):
        self.fault(IF, Code(compiled_code(IF).rows + (("jump", 7),), (), (0,)), None)
        rows = compiled_code(IF).rows[:1] + (("unless", 7),) + compiled_code(IF).rows[2:] + (("jump", 7),)
        self.fault(IF, Code(rows, (), (0,)), ("ring", 7))


class Instructions(Judged):
    def test_each_one_changed(self):
        for text in TEXTS[:20]:
            program = Program(text)
            rows = compiled_code(program).rows
            for address, row in enumerate(rows):
                for other in (("value", 77), ("give", 5), row + (0,), row[:-1], list(row), "row", None, (), (row,)):
                    if other != row and not (row[0] == "unless" and other == ("unless", 0)):
                        self.changed(program, ("row", address), {address: other})

    def test_behind_jumps(self):
        self.fault(Program("1"), Code((("jump", 2), ("value", 1), ("value", 2)), (), (0,)), ("row", 2))
        self.fault(Program("1"), Code((("jump", 1), ("jump", 3), None, ("jump", 4), "x"), (), (0,)), ("row", 4))

    def test_misshapen_jumps(self):
        for row in (("jump",), ("jump", 1, 1), ["jump", 1], "jump", ("Jump", 1), ("jump ", 1)):
            self.changed(KEEP, ("row", 2), {2: row})

    def test_misshapen_branches(self):
        for row in (("unless",), ("unless", 5, 5), ["unless", 5], "unless", ("jump", 1), ("Unless", 5), 5):
            self.changed(IF, ("ring", 1) if row == ("jump", 1) else ("row", 1), {1: row})

    def test_a_branch_to_another_place_that_fits(self):
        same = Program("(if (ask) (show 1) (show 1))")
        self.changed(same, None, {1: ("unless", 2)})
        self.changed(same, ("row", 0), {1: ("unless", 0)})

    def test_equal_by_the_sign(self):
        # Not the same kind of number, but equal by ==.
        self.changed(KEEP, None, {0: ("value", True), 9: ("give", False)})
        self.changed(KEEP, None, {4: ("value", 5.0)})
        self.changed(KEEP, ("row", 4), {4: ("value", "5")})


class Order(Judged):
    def test_bodies_ahead_of_places(self):
        self.changed(KEEP, ("row", 5), {5: "x", 6: "x"})
        self.changed(KEEP, ("row", 2), {6: "x", 2: "x", 5: "x"})
        self.changed(KEEP, ("row", 5), {5: "x"}, places=(None,))

    def test_bodies_and_places_ascending(self):
        program = Program("(do (1) (2) (fn (x) x))")
        # 0 wait 0, 1 value 1, 2 call, 3 slot, 4 give, 5 wait 1, 6 value 2, 7 call, 8 fun, 9 give
        self.assertEqual(compiled_code(program).bodies, (0, 3))
        self.assertEqual(compiled_code(program).places, (5, 8))
        self.changed(program, ("address", None), bodies=(0, None), places=("a", "b"))
        self.changed(program, ("address", "a"), places=("a", "b"))
        self.changed(program, ("row", 6), {6: "x", 8: "y"})
        self.changed(program, ("address", -9), {0: "x"}, bodies=(-9, None))
        self.changed(program, ("row", 0), {0: "x"}, bodies=(0, None))

    def test_the_first_branch_ahead_of_the_second(self):
        self.changed(IF, ("row", 4), {4: "x", 5: "y"})
        self.changed(IF, ("row", 5), {5: "y"})
        nested = Program("(if 1 (if 2 3 4) (if 5 6 7))")
        self.changed(nested, ("row", 6), {6: "x", 8: "y"})
        self.changed(nested, ("address", 99), {3: ("unless", 99), 8: "y"})


class OtherCodes(Judged):
    """Codes that fit, though they are put together otherwise."""

    def test_parts_in_another_order(self):
        self.fault(KEEP, Code((
            ("slot", 0), ("slot", 1), ("op", "+", 2), ("give", 0),
            ("value", 1), ("wait", 0), ("keep", 2), ("slot", 2), ("value", 5), ("call", 1, 2)), (0,), (4,)), None)
        self.fault(FUN, Code((("slot", 0), ("give", 0), ("fun", 1, ()), ("give", 0)), (), (2, 0)), None)
        self.fault(IF, Code((("ask",), ("unless", 7), ("value", 1), ("show",), ("give", 0), None, None, ("value", 2), ("call", 0, 0)),
                            (), (0,)), None)
        self.fault(IF, Code((("value", 2), ("call", 0, 0), ("ask",), ("unless", 0), ("value", 1), ("show",), ("give", 0)), (), (2,)), None)

    def test_jumps_in_front_of_each_instruction(self):
        rows = []
        code = compiled_code(KEEP)
        for address, row in enumerate(code.rows):
            rows += [("jump", 3 * address + 2), "no walk comes here", row]
        self.fault(KEEP, Code(tuple(rows), (18,), (0,)), None)

    def test_parts_that_share_instructions(self):
        program = Program("(pair (fn (x) x) (fn (y) y))")
        self.fault(program, Code((("fun", 1, ()), ("fun", 2, ()), ("op", "pair", 2), ("give", 0), ("slot", 0), ("give", 0)),
                                 (), (0, 4, 4)), None)
        # The end of one part is that of another.
        self.fault(FUN, Code((("fun", 1, ()), ("jump", 3), ("slot", 0), ("give", 0)), (), (0, 2)), None)

    def test_what_no_walk_comes_to_may_be_anything(self):
        code = compiled_code(KEEP)
        for thing in (None, "x", 5, (), [], ("jump", 0), ("jump", 99), ("unless", None)):
            self.fault(KEEP, Code(code.rows + (thing,), code.places, code.bodies), None)

    def test_lists_are_as_good(self):
        code = compiled_code(KEEP)
        self.fault(KEEP, Code(list(code.rows), list(code.places), list(code.bodies)), None)

    def test_code_of_another_program(self):
        self.fault(Program("(+ 1 (keep k (k 6)))"), compiled_code(KEEP), ("row", 4))
        self.fault(Program("(- 1 (keep k (k 5)))"), compiled_code(KEEP), ("row", 8))
        self.fault(Program("2"), compiled_code(Program("1")), ("row", 0))


if __name__ == "__main__":
    unittest.main()
