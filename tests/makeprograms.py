"""Makes random good trees for the tests, always the same ones for the same seed."""

import random

from goonagain.printer import program_text
from goonagain.reader import read_program

NAMES = ("a", "b", "c", "d", "k", "x", "y")
TWO = ("+", "-", "*", "quot", "rem", "<", "=", "same?", "pair", "left!", "right!")
ONE = ("left", "right", "pair?", "none?", "rest?", "fun?")


class Maker:
    def __init__(self, seed, deep=6, sets=True, takes=True, gentle=False):
        self.chance = random.Random(seed)
        self.deep = deep
        self.sets = sets
        self.takes = takes
        # A gentle maker leaves out what mostly ends a run at once with a fault.
        self.gentle = gentle

    def tree(self):
        # A few names around the program hold values from outside, so that rests can be kept and met again.
        body = ("do", tuple(self.form(self.deep, ("p", "q", "r", "go")) for _ in range(self.chance.randint(1, 4))))
        rows = (("p", ("none",)), ("q", ("none",)), ("r", ("number", self.chance.randint(0, 5))))
        loop = ("fn", ("n", "f"), ("if", ("op", "<", (("name", "n"), ("number", 1))), ("none",), ("do", (
            ("call", ("name", "f"), (("name", "n"),)),
            ("call", ("name", "go"), (("op", "-", (("name", "n"), ("number", 1))), ("name", "f")))))))
        return ("let", rows, ("rec", (("go", loop),), body))

    def form(self, deep, known):
        if deep <= 0 or self.chance.random() < 0.08:
            return self.leaf(known)
        makers = [self.let, self.rec, self.do, self.do, self.call, self.call, self.keep, self.keep, self.mark,
                  self.wind, self.wind, self.wind, self.show, self.show, self.show, self.iff, self.fn,
                  self.go_on, self.go_on, self.go_on, self.go_on]
        makers += [self.couple] if self.gentle else [self.number, self.op]
        if self.sets:
            makers += [self.set, self.set]
        if self.takes:
            makers += [self.take, self.take]
        return self.chance.choice(makers)(deep - 1, known)

    def leaf(self, known):
        roll = self.chance.random()
        if roll < 0.4:
            return ("name", self.chance.choice(known))
        if roll < 0.8:
            return ("number", self.chance.choice((0, 1, 2, 3, 5, -1, 7)))
        return self.chance.choice((("true",), ("false",), ("none",), ("ask",)))

    def some(self, deep, known, least, most):
        return tuple(self.form(deep, known) for _ in range(self.chance.randint(least, most)))

    def names(self, least, most):
        return tuple(self.chance.sample(NAMES, self.chance.randint(least, most)))

    def let(self, deep, known):
        names = self.names(1, 3)
        rows = tuple((name, self.form(deep, known)) for name in names)
        return ("let", rows, self.form(deep, known + names))

    def rec(self, deep, known):
        names = self.names(1, 3)
        inside = known + names
        rows = tuple((name, self.fn(deep, inside)) for name in names)
        return ("rec", rows, self.form(deep, inside))

    def fn(self, deep, known):
        names = self.names(0, 2)
        return ("fn", names, self.form(deep, known + names))

    def set(self, deep, known):
        return ("set", self.chance.choice(known), self.form(deep, known))

    def iff(self, deep, known):
        return ("if", self.form(deep, known), self.form(deep, known), self.form(deep, known))

    def do(self, deep, known):
        return ("do", self.some(deep, known, 1, 4))

    def call(self, deep, known):
        many = self.chance.randint(0, 2)
        if self.gentle or self.chance.random() < 0.5:
            names = tuple(self.chance.sample(NAMES, many))
            head = ("fn", names, self.form(deep, known + names))
        else:
            head = self.form(deep, known)
        return ("call", head, tuple(self.form(deep, known) for _ in range(many)))

    def go_on(self, deep, known):
        # Calls a name if it is a rest or a fun, so that fewer runs end at once with a fault.
        name = ("name", self.chance.choice(known))
        given = self.form(deep, known)
        return ("if", ("op", "rest?", (name,)), ("call", name, (given,)), self.form(deep, known))

    def keep(self, deep, known):
        word = self.chance.choice(("keep", "keep", "keep", "once"))
        return self.with_rest(word, deep, known)

    def take(self, deep, known):
        return self.with_rest("take", deep, known)

    def with_rest(self, word, deep, known):
        name = self.chance.choice(NAMES)
        inside = known + (name,)
        form = self.form(deep, inside)
        if self.sets and self.chance.random() < 0.5:
            form = ("do", (("set", self.chance.choice(known), ("name", name)), form))
        elif self.chance.random() < 0.2:
            form = ("do", (("call", ("name", name), (self.form(deep, inside),)), form))
        return (word, name, form)

    def mark(self, deep, known):
        return ("mark", self.form(deep, known))

    def wind(self, deep, known):
        return ("wind", self.deed(deep, known), self.form(deep, known), self.deed(deep, known))

    def deed(self, deep, known):
        if not self.gentle and self.chance.random() < 0.1:
            return self.form(deep, known)
        shown = ("show", ("number", self.chance.randint(10, 99)))
        return ("fn", (), ("do", (shown, self.form(deep - 1, known))) if self.chance.random() < 0.6 else shown)

    def show(self, deep, known):
        return ("show", self.form(deep, known))

    def number(self, deep, known):
        # Numbers on both sides, most of the time.
        word = self.chance.choice(("+", "-", "*", "quot", "rem", "<", "="))
        return ("op", word, (self.form(deep - 2, known), ("number", self.chance.randint(0, 9))))

    def couple(self, deep, known):
        return ("op", self.chance.choice(("pair", "same?")), (self.form(deep, known), self.form(deep, known)))

    def op(self, deep, known):
        if self.chance.random() < 0.5:
            return ("op", self.chance.choice(TWO), (self.form(deep, known), self.form(deep, known)))
        return ("op", self.chance.choice(ONE), (self.form(deep, known),))


def good_tree(seed, **settings):
    """A tree that can be printed and read, or None where this seed gives none."""
    tree = Maker(seed, **settings).tree()
    try:
        return tree if read_program(program_text(tree)) == tree else None
    except ValueError:
        return None
