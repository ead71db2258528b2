"""Makes random good plans of each recipe, always the same ones for the same seed; and runs the programs of plans."""

import random

from goonagain.errors import BadPlan
from goonagain.machine import Seen, run_seen
from goonagain.meaning import KINDS, made_machine
from goonagain.program import Program
from goonagain.recipes import check_plan
from goonagain.walker import walk


class PlanMaker:
    def __init__(self, seed, rich=0.8):
        self.chance = random.Random(seed)
        self.rich = rich

    def number(self):
        return self.chance.choice((0, 1, -1, 2, 3, 5, -7, 10, 99, -99, self.chance.randint(-99, 99)))

    def ends(self, deep):
        return deep == 5 or deep > 1 and self.chance.random() > self.rich

    def choices(self, deep=1):
        if self.ends(deep):
            return ("is", self.number())
        word = self.chance.choice(("sum", "pick", "pick", "pick", "under"))
        if word == "sum":
            return (word, self.choices(deep + 1), self.choices(deep + 1))
        if word == "pick":
            return (word,) + tuple(self.choices(deep + 1) for _ in range(self.chance.randint(1, 4)))
        return (word, self.choices(deep + 1), self.number())

    def makers(self, deep=1):
        if self.ends(deep):
            return ("give", self.number())
        word = self.chance.choice(("both", "both", "again", "within", "within"))
        if word == "both":
            return (word, self.makers(deep + 1), self.makers(deep + 1))
        if word == "again":
            return (word, self.chance.randint(0, 4), self.makers(deep + 1))
        return (word, self.number(), self.makers(deep + 1))

    def catching(self, deep=1, looped=False):
        if self.ends(deep):
            leaves = [("say", self.number()), ("say", self.number()), ("throw", self.number())] + [("leave",)] * looped
            return self.chance.choice(leaves)
        word = self.chance.choice(("both", "both", "both", "within", "catch", "catch", "loop"))
        if word in ("both", "catch"):
            return (word, self.catching(deep + 1, looped), self.catching(deep + 1, looped))
        if word == "loop":
            return (word, self.chance.randint(0, 4), self.catching(deep + 1, True))
        return (word, self.number(), self.catching(deep + 1, looped))

    def hand(self, deep=1):
        steps = []
        for _ in range(self.chance.randint(0, 5)):
            word = self.chance.choice(("say", "say", "away", "away", "new", "within", "within"))
            if word == "say":
                steps.append((word, self.number()))
            elif word == "away":
                steps.append((word,))
            elif deep < 4:
                inner = self.hand(deep + 1)
                steps.append((word, inner) if word == "new" else (word, self.number(), inner))
        return tuple(steps)

    def hands(self):
        return tuple(self.hand() for _ in range(self.chance.randint(1, 4)))


def good_plan(recipe, seed, rich=0.8):
    """A random plan of a recipe that is good."""
    maker = PlanMaker(seed, rich)
    while True:
        plan = getattr(maker, recipe)()
        try:
            check_plan(plan, recipe)
        except BadPlan:
            continue
        return plan


def shows_on_all(test, text, shown):
    """Whether the run of a text shows these texts on each machine and on the walker; returns whether it came to the end."""
    program = Program(text)
    seen = run_seen(made_machine("plain", program))
    if seen.end == ("fuel",):
        test.assertEqual(seen.shows, shown[:len(seen.shows)], text)
    else:
        test.assertEqual((seen.shows, seen.end), (shown, ("end",)), text)
    for kind in KINDS[1:]:
        test.assertEqual(run_seen(made_machine(kind, program)), seen)
    test.assertEqual(walk(program.tree), Seen(seen.shows, seen.end))
    return seen.end == ("end",)
