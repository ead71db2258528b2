"""[0.4], [0.5]: what is passed in is not changed or kept, what is returned is new, a call that raises changes nothing."""

import copy
import unittest

from goonagain.alike import closed_standing, renaming_between
from goonagain.bench import Bench, check_deeds, conduct
from goonagain.codejudge import code_fault
from goonagain.compiler import compiled_code, turned_code
from goonagain.equals import TURN_NAMES, turn_here, uses_of
from goonagain.errors import BadAsks, BadCode, BadDeed, BadHandover, BadJumps, BadKind, BadListing, BadName, BadPlan, BadStanding
from goonagain.errors import BadText, BadTurnName, NoCall, NoKeep, NoTurn
from goonagain.handovers import handed_over
from goonagain.heldframes import reached_rows
from goonagain.jumpcode import JumpCode, compiled_jumps
from goonagain.jumpjudge import jump_fault
from goonagain.jumpmachine import JumpMachine
from goonagain.jumptext import jump_text, read_jumps
from goonagain.machine import run_seen
from goonagain.meaning import KINDS, made_machine, restored_machine, stepped
from goonagain.onceforkeep import keep_paths, with_once
from goonagain.piecesmachine import PiecesMachine
from goonagain.pile import frames_of, slots_of
from goonagain.pilemachine import PileMachine
from goonagain.plain import PlainMachine
from goonagain.plainset import without_set
from goonagain.program import Program
from goonagain.reader import read_program
from goonagain.readstand import read_standing
from goonagain.recipes import check_plan
from goonagain.rests import chain_frames, chain_of
from goonagain.rows import Code, place_layouts
from goonagain.runs import Run, run_course
from goonagain.scopes import check_names, free_names, set_names
from goonagain.segments import cut_blocks
from goonagain.standfault import standing_fault
from goonagain.standing import Standing, reached
from goonagain.trees import parts_of, tree_at, tree_paths, tree_with, with_parts
from goonagain.turner import list_turns, turn_all, turned
from goonagain.walker import walk_counted
from goonagain.writestand import standing_text
from goonagain.ways import deeds_of_way, lay_on, mark_cut, next_step, shared_winds, winds_of

TEXT = """(let ((r none) (n 0)) (rec ((f (fn (a b) (set n (+ n a)))) (g (fn () (f 1 2)))) (g)
  (mark (wind (fn () (show 1)) (take k (pair (k 5) (k 6))) (fn () (show (ask))))) (keep k (set r k)) (if (< n 3) (once j (j n)) 5)))"""
THINGS = {1: ("wind", 7, 8), 2: ("mark",), 3: ("wind", 17, 18), 4: ("wait", 0, (("rest", 5),)), 5: ("keep", (1, 4))}


def all_tuples(test, thing):
    """Whether a thing that was returned has tuples alone, through and through."""
    waiting = [thing]
    while waiting:
        item = waiting.pop()
        test.assertIsInstance(item, (tuple, str, int, type(None)))
        if isinstance(item, tuple):
            waiting.extend(item)


class Unchanged(unittest.TestCase):
    def test_functions_over_trees_return_tuples(self):
        tree = read_program(TEXT)
        for thing in (tree, without_set(tree), free_names(tree), set_names(tree[2]), parts_of(tree), tree_paths(tree),
                      tree_at(tree, [2, 0]), tree_with(tree, [2, 0], ("none",)), with_parts(tree, list(parts_of(tree))),
                      uses_of(tree[2], "n"), Program(TEXT).bodies, Program(TEXT).places):
            all_tuples(self, thing)
        found = turn_all(tree, ["unlet", "known"])
        for thing in (list_turns(tree), found.tree, found.turns, turned(("do", (("none",),)), [], "lone")):
            all_tuples(self, thing)
        for name in TURN_NAMES:
            all_tuples(self, turn_here(read_program("((fn (a b) a) 1 2)"), name, tree))

    def test_functions_over_frames_take_lists_and_return_tuples(self):
        present, goal, things = [1, 2, 3, 4], [2, 1, 4, 3], dict(THINGS)
        for thing in (winds_of(present, things), shared_winds(present, goal, things), deeds_of_way(present, goal, things),
                      mark_cut(present, things), lay_on(present, goal, things), next_step(present, ["off"], things),
                      next_step(present, ("to", goal, 0), things), next_step(present, ("to", goal, 1), things),
                      next_step(present, ["on", [1, 4, 3]], things), next_step(present, ("out",), things),
                      reached(("rest", 5), [1, ("rest", 5)], present, things)):
            all_tuples(self, thing)
        self.assertEqual((present, goal, things), ([1, 2, 3, 4], [2, 1, 4, 3], THINGS))

    def test_functions_over_pile_code_return_tuples(self):
        program = Program(TEXT)
        code = compiled_code(program)
        lists = Code(list(code.rows), list(code.places), list(code.bodies))
        turned_about = turned_code(lists, [3, 9])
        for thing in (code.rows, code.places, code.bodies, turned_about.rows, turned_about.places, turned_about.bodies,
                      cut_blocks([4, 2, 4], THINGS), code_fault(program, Code([], code.places, code.bodies))):
            all_tuples(self, thing)
        self.assertEqual((lists.rows, lists.places, lists.bodies), (list(code.rows), list(code.places), list(code.bodies)))
        layouts = place_layouts(program)
        for layout in layouts:
            all_tuples(self, layout.offsets)
        machine = PileMachine(program, (1,))
        while machine.outcome is None:
            slots, roads, things = list(machine.pile_slots()), machine.roads_kept(), dict(machine.standing().things)
            before = copy.deepcopy((slots, roads, things))
            all_tuples(self, frames_of(layouts, slots, roads))
            all_tuples(self, slots_of(layouts, list(machine.standing().frames), things))
            all_tuples(self, tuple(roads.values()))
            self.assertEqual((slots, roads, things), before)
            machine.advance()

    def test_functions_over_jump_code_return_tuples(self):
        program = Program(TEXT)
        code = compiled_jumps(program)
        lists = JumpCode(list(code.rows), list(code.starts), list(code.returns))
        read = read_jumps(jump_text(lists))
        for thing in (code.rows, code.starts, code.returns, read.rows, read.starts, read.returns,
                      jump_fault(program, JumpCode([], [], [])), keep_paths(program.tree), with_once(program.tree, [])):
            all_tuples(self, thing)
        self.assertIsNone(jump_fault(program, lists))
        self.assertEqual((lists.rows, lists.starts, lists.returns), (list(code.rows), list(code.starts), list(code.returns)))

    def test_what_is_told_of_frames_is_tuples(self):
        machine = PiecesMachine(Program(TEXT), (1,))
        while machine.outcome is None:
            standing, holding = machine.standing(), machine.holding()
            things = dict(standing.things)
            before = copy.deepcopy((vars(standing), vars(holding), things))
            all_tuples(self, (holding.blocks, holding.present, holding.opened, holding.rows))
            all_tuples(self, reached_rows(standing))
            all_tuples(self, chain_frames(chain_of(list(standing.frames), things)))
            machine.advance()
            self.assertEqual((vars(standing), vars(holding), things), before)

    def test_functions_over_standings_return_tuples(self):
        program, asks = Program(TEXT), [1]
        machine = made_machine("plain", program, asks)
        while machine.outcome is None:
            standing = machine.standing()
            before = copy.deepcopy(vars(standing))
            closed, read = closed_standing(standing), read_standing(standing_text(standing))
            for told in (closed, read, stepped("jump", program, asks, standing).standing or closed):
                all_tuples(self, (told.callee, told.handed, told.frames, told.things, told.born, told.calls, told.asked, told.shown))
            all_tuples(self, renaming_between(standing, closed))
            self.assertIsNone(standing_fault(program, asks, standing))
            all_tuples(self, standing_fault(program, asks, Standing(standing.callee, standing.handed, standing.frames, standing.things, -1, 0, 0, 0)))
            all_tuples(self, stepped("pile", program, asks, standing).shown)
            for kind in KINDS:
                run_seen(restored_machine(kind, program, asks, standing))
                run_seen(handed_over(machine, kind))
            self.assertEqual((vars(standing), asks), (before, [1]))
            self.assertEqual(vars(machine.standing()), before)
            machine.advance()

    def test_lists_handed_to_runs(self):
        program = Program(TEXT)
        asks, handovers, deeds = [3], [(1, "pile"), (2, "jump")], [("go", 2), ("keep",), ("cut", 0, "pieces")]
        course = run_course(program, asks, handovers)
        account = conduct(program, asks, deeds)
        bench = Bench(program, asks)
        run = Run(program, asks)
        trial = bench.trial(deeds)
        check_deeds(deeds)
        self.assertEqual((asks, handovers, deeds), ([3], [(1, "pile"), (2, "jump")], [("go", 2), ("keep",), ("cut", 0, "pieces")]))
        asks[0] = 77
        self.assertEqual((bench.finish(), run.finish()), (True, ("end",)))
        for shows in (course.shows, account.shows, bench.seen):
            self.assertEqual(shows, run.seen)
        for thing in (course.shows, course.end, course.texts, account.shows, account.done, trial.news, trial.done, bench.perform(), run.seen):
            all_tuples(self, thing)
        for legs in (course.legs_done, account.legs_done, bench.legs, run.legs, bench.shelf.all_kept()):
            self.assertIsInstance(legs, tuple)

    def test_lists_that_are_changed_later(self):
        parts = [("number", 1), ("number", 2)]
        tree = with_parts(("do", (("none",), ("none",))), parts)
        frames = [4, 4]
        step = next_step([1], ("to", frames, 0), THINGS)
        asks = [1, 2, 3]
        machine = PlainMachine(Program("((fn () 1)) (show (ask))"), asks)
        other = PlainMachine.restored(machine.program, asks, machine.standing())
        parts[0] = frames[0] = asks[0] = None
        self.assertEqual(tree, ("do", (("number", 1), ("number", 2))))
        self.assertEqual(step, ("leave", 8, (), ("to", (4, 4), 0)))
        self.assertEqual((run_seen(machine).shows, run_seen(other).shows), (("1",), ("1",)))

    def test_a_machine_changes_neither_its_program_nor_its_inputs(self):
        program, asks = Program(TEXT), [4, 5, 6]
        before = copy.deepcopy(vars(program))
        for kind in (PlainMachine, PileMachine, PiecesMachine, JumpMachine):
            machine = kind(program, asks)
            while machine.outcome is None:
                standing = machine.standing()
                told = copy.deepcopy(vars(standing))
                other = kind.restored(program, asks, standing)
                machine.advance()
                run_seen(other)
                self.assertEqual(vars(standing), told)
                all_tuples(self, standing.things)
                all_tuples(self, (standing.callee, standing.handed, standing.frames, machine.shown))
            self.assertEqual(vars(program), before)
            self.assertEqual(asks, [4, 5, 6])

    def test_two_runs_of_one_program_are_alike(self):
        program = Program(TEXT)
        first = run_seen(PlainMachine(program, (4,)))
        self.assertEqual(run_seen(PlainMachine(program, (4,))), first)
        walked = walk_counted(program.tree, (4,))
        self.assertEqual(walk_counted(program.tree, (4,)), walked)
        self.assertEqual((walked.shows, walked.end), (first.shows, first.end))

    def test_calls_that_raise_change_nothing(self):
        asks, things, tree = [1, True, 3], dict(THINGS), read_program("(+ x 1)")
        program = Program("(show (ask))")
        for call, error in ((lambda: PlainMachine(program, asks), BadAsks), (lambda: walk_counted(program.tree, asks), BadAsks),
                            (lambda: check_names(tree), BadName), (lambda: Program("(x"), BadText),
                            (lambda: Program.of_tree(tree), BadName), (lambda: turn_here(tree, "no", tree), BadTurnName),
                            (lambda: turned(tree, [1], "fold"), NoTurn), (lambda: turn_all(tree, ["fold", 1]), BadTurnName),
                            (lambda: PileMachine(program, asks), BadAsks), (lambda: PiecesMachine(program, asks), BadAsks),
                            (lambda: with_once(tree, [[0]]), NoKeep), (lambda: read_jumps("starts"), BadListing),
                            (lambda: PileMachine(program, code=Code((), (), (0,))), BadCode), (lambda: JumpMachine(program, asks), BadAsks),
                            (lambda: JumpMachine(program, code=JumpCode((), (0,), ())), BadJumps), (lambda: made_machine("no", program), BadKind),
                            (lambda: read_standing("standing"), BadStanding), (lambda: Run(program, asks), BadAsks), (lambda: check_deeds([asks]), BadDeed),
                            (lambda: handed_over(PlainMachine(program), "no"), BadKind), (lambda: handed_over(PlainMachine(program), "jump"), NoCall),
                            (lambda: check_plan(asks, "makers"), BadPlan), (lambda: run_course(program, (), [asks]), BadHandover)):
            for _ in range(2):
                self.assertRaises(error, call)
        self.assertEqual((asks, things, tree), ([1, True, 3], THINGS, read_program("(+ x 1)")))
        self.assertEqual(run_seen(PlainMachine(program, [7])).shows, ("7",))


if __name__ == "__main__":
    unittest.main()
