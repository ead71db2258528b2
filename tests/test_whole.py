"""What is promised over the whole program: [0.2], [3.7], [6.9], on all four machines and on the walker."""

import random
import unittest

from makeprograms import good_tree
from makestandings import EASY
from writtenprograms import FAULTS, TEXTS

from goonagain.bench import Bench, conduct
from goonagain.handovers import handed_over
from goonagain.machine import Seen, run_seen
from goonagain.meaning import KINDS, made_machine, restored_machine
from goonagain.printer import program_text
from goonagain.program import Program
from goonagain.reader import read_program
from goonagain.runs import Run, run_course
from goonagain.standing import Standing, reached
from goonagain.turner import list_turns, turn_all, turned
from goonagain.walker import walk
from goonagain.ways import deeds_of_way


class Machines(unittest.TestCase):
    def all_alike(self, program, asks, fuel):
        """Runs the four machines beside one another and the walker; what was seen."""
        machines = [made_machine(kind, program, asks, fuel) for kind in KINDS]
        while machines[0].outcome is None:
            told = [machine.standing() for machine in machines]
            self.assertEqual(told, [told[0]] * 4)
            for machine in machines:
                machine.advance()
        told = [(machine.shown, machine.outcome, machine.calls, machine.asked, machine.standing()) for machine in machines]
        self.assertEqual(told, [told[0]] * 4)
        seen = Seen(machines[0].shown, machines[0].outcome)
        self.assertEqual(walk(program.tree, asks, fuel), seen)
        return seen

    def test_written_programs(self):
        for text in TEXTS + EASY + tuple(text for text, _ in FAULTS):
            program = Program(text)
            for asks, fuel in (((), 2000), ((1, -2), 300), ((3,), 7)):
                self.all_alike(program, asks, fuel)

    def test_random_programs(self):
        for seed in range(1000, 1400):
            tree = good_tree(seed, deep=5 + seed % 2, gentle=seed % 3 > 0)
            if tree is not None:
                self.all_alike(Program.of_tree(tree), (1, 2), (60, 9, 3)[seed % 3])


class Turns(Machines):
    def turned_alike(self, tree, other, asks, fuel):
        """[6.9] for a tree and its turned tree."""
        seen = self.all_alike(Program.of_tree(tree), asks, fuel)
        again = self.all_alike(Program.of_tree(other), asks, fuel)
        if seen.end == ("fuel",):
            self.assertEqual(again.shows[:len(seen.shows)], seen.shows)
        else:
            self.assertEqual(again, seen)

    def test_written_programs(self):
        for text in TEXTS:
            tree = Program(text).tree
            for asks, fuel in (((1, 2), 300), ((), 6)):
                self.turned_alike(tree, turn_all(tree, ["fold", "choose", "drop", "lone", "onecall", "unlet", "known", "letname", "unkept", "gokept", "gotaken",
                                                        "marktake", "markvalue"]).tree, asks, fuel)

    def test_random_programs(self):
        many = 0
        for seed in range(220):
            tree = good_tree(seed, deep=5, gentle=seed % 3 > 0)
            if tree is None:
                continue
            chance = random.Random(seed)
            turns = list_turns(tree)
            others = [turned(tree, path, name) for path, name in chance.sample(turns, min(2, len(turns)))] + [turn_all(tree).tree]
            for other in others:
                if self.can_be_read(other):
                    self.turned_alike(tree, other, (1,), (40, 8)[seed % 2])
                    many += other != tree
        self.assertGreater(many, 100)

    def can_be_read(self, tree):
        try:
            return read_program(program_text(tree)) == tree
        except ValueError:
            return False


class Ways(unittest.TestCase):
    """[0.2]: which deeds are called when one rest is exchanged for another, and in which order."""

    PROGRAM = Program("(do (wind (fn () 1) (2) (fn () (show 3))) (keep k (k 1)))")

    def test_deeds(self):
        chance = random.Random(6)
        lengths = {}
        for _ in range(200):
            things, rows = {}, [[], []]
            for birth in range(1, 14):
                # Deeds of the wind with a birth b: 100 + b enters it, 200 + b leaves it.
                things[birth] = ("mark",) if chance.random() < 0.25 else ("wind", ("fun", 100 + birth), ("fun", 200 + birth))
            cut = chance.randint(1, 14)
            for row in rows:
                row.extend(birth for birth in range(1, cut) if birth not in (3, 5))
                row.extend(birth for birth in range(cut, 14) if chance.random() < 0.5)
            for birth in range(1, 14):
                things[100 + birth], things[200 + birth] = ("fun", 1, ()), ("fun", 2, ())
            present, goal = tuple(rows[0]), tuple(rows[1])
            things[300] = ("keep", goal)
            self.assertEqual(self.PROGRAM.bodies[1][:2], (0, 0))
            standing = Standing(("rest", 300), (7,), present, reached(("rest", 300), (7,), present, things), 400, 0, 0, 0)
            due = [(things[birth][1 if word == "enter" else 2], ) for word, _, birth in deeds_of_way(present, goal, things)]
            lengths[len(due)] = True
            for kind in KINDS:
                machine = restored_machine(kind, self.PROGRAM, (), standing)
                found = []
                machine.advance()
                for _ in due:
                    found.append((machine.standing().callee,))
                    machine.advance()
                    if machine.outcome is None and chance.random() < 0.2:
                        machine = handed_over(machine, chance.choice(KINDS))
                self.assertEqual(found, due)
                # Then the value comes to the goal, and each of its winds is left, the topmost first.
                for birth in reversed([birth for birth in goal if things[birth][0] == "wind"]):
                    self.assertEqual(machine.standing().callee, ("fun", 200 + birth))
                    machine.advance()
                self.assertEqual(machine.outcome, ("end",))
        self.assertGreater(len(lengths), 8)


class Fuel(unittest.TestCase):
    def test_two_thousand_calls_by_default(self):
        """[3.7], [16.2]: a machine of each kind, the walker, a run, a course, a bench and an account."""
        program = Program("(rec ((f (fn (n) (do (show n) (f (+ n 1)))))) (f 1))")
        due = tuple(str(number) for number in range(1, 2001))
        for kind in KINDS:
            machine = made_machine(kind, program)
            self.assertEqual((run_seen(machine), machine.calls), (Seen(due, ("fuel",)), 2000))
            run = Run(program, kind=kind)
            self.assertEqual((run.go(3000), run.finish(), run.seen), (2000, ("fuel",), due))
            course = run_course(program, start=kind)
            self.assertEqual((course.shows, course.end, course.calls), (due, ("fuel",), 2000))
            bench = Bench(program, kind=kind)
            self.assertEqual((bench.finish(), bench.seen, bench.ended, bench.stands_at), (True, due, ("fuel",), 2000))
            account = conduct(program, (), (), kind=kind)
            self.assertEqual((account.shows, account.end, account.calls, account.work), (due, ("fuel",), 2000, 2000))
        self.assertEqual(walk(program.tree), Seen(due, ("fuel",)))
        # A run of just two thousand calls comes to its end.
        short = Program("(rec ((f (fn (n) (if (< n 2000) (f (+ n 1)) (show n))))) (f 1))")
        for kind in KINDS:
            self.assertEqual((run_course(short, start=kind).end, run_course(short, start=kind).calls), (("end",), 2000))
            self.assertEqual(run_course(short, start=kind, fuel=1999).end, ("fuel",))
        self.assertEqual(walk(short.tree).end, ("end",))


if __name__ == "__main__":
    unittest.main()
