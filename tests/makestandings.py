"""Makes random well standings for the tests, mostly such as no run comes to; always the same ones for the same seed."""

import random

from goonagain.rows import place_layouts
from goonagain.standing import Standing, reached

# Programs whose places and bodies take any values, so that runs from random standings go on for a while.
EASY = (
    """(let ((f (fn () 1)) (g (fn (x) x)) (h (fn (x) (if (rest? x) (x 2) (pair x x)))) (s (fn (x) (do (show 5) (show 6)))))
      (do (pair (g (pair (g 1) (h 2))) (same? (f) (g (s 3))))
          (keep k (do (pair (f) (h k)) (g k)))
          (mark (pair (g 1) (take k (do (f) (pair (h k) (h k))))))
          (wind f (pair (g 1) (pair (f) (take j (do (h j) (g j))))) (fn () (show 1)))
          (pair 1 (once w (do (f) (pair (g w) (h w)))))
          (h (keep k k))))""",
    """(rec ((loop (fn (x y) (do (show 1) (wind (fn () (show 2)) (if (rest? x) (x y) (pair y (out))) (fn () (do (out) (show 3)))))))
           (out (fn () (pair (mark (take k (k k))) (show 4)))) (go (fn (x) (if (fun? x) (show x) (if (rest? x) (x 7) (out))))))
      (do (keep k (wind (fn () (go k)) (loop k 1) out)) (pair (go 1) (pair (go 2) (mark (go (take k (wind out (go k) out))))))))""",
)
FRAMES = ("wait", "wait", "wait", "mark", "pass", "wind", "way")
NAMED = {"pair": "pair", "fun": "fun", "keep": "rest", "once": "rest", "piece": "rest"}


class StandingMaker:
    def __init__(self, program, asks, seed, most=14):
        self.chance = random.Random(seed)
        self.program = program
        self.asks = asks
        self.outers = [layout.outer for layout in place_layouts(program)]
        words = ["pair", "keep", "once", "once", "piece", "mark", "pass", "wind", "wind", "wind", "way", "way"]
        if len(program.bodies) > 1:
            words += ["fun", "fun"]
        if program.places:
            words += ["wait"] * 4
        self.births = sorted(self.chance.sample(range(1, 3 * most), self.chance.randint(3, most)))
        self.words = {birth: self.chance.choice(words) for birth in self.births}
        self.things = {}

    def made(self):
        for birth in self.births:
            if self.words[birth] == "fun":
                self.things[birth] = ("fun", self.chance.randint(1, len(self.program.bodies) - 1), ())
        for birth in self.births:
            self.fill(birth)
        for birth in self.births:
            # A rest or pass frame may name what is younger than itself.
            if self.words[birth] in ("keep", "piece"):
                self.things[birth] = (self.words[birth], self.row(self.words[birth] == "keep"))
        self.fill_once()
        callee = self.called()
        handed = self.given(callee)
        frames = self.row(True)
        things = reached(callee, handed, frames, self.things)
        return Standing(callee, handed, frames, things, self.births[-1] + self.chance.randint(0, 9), self.chance.randint(0, 30),
                        self.chance.randint(0, len(self.asks)), self.chance.randint(0, 50))

    def called(self):
        rests = [("rest", birth) for birth in self.births if NAMED.get(self.words[birth]) == "rest"]
        funs = [("fun", birth) for birth in self.births if self.words[birth] == "fun"]
        if rests and self.chance.random() < 0.7:
            return self.chance.choice(rests)
        return self.chance.choice(funs) if funs and self.chance.random() < 0.9 else self.value()

    def given(self, callee):
        """The values that are handed to a callee, mostly as many as it takes."""
        many = self.chance.randint(0, 2)
        if isinstance(callee, tuple) and self.chance.random() < 0.95:
            many = 1 if callee[0] == "rest" else self.program.bodies[self.things[callee[1]][1]][0] if callee[0] == "fun" else 0
        return tuple(self.value() for _ in range(many))

    def value(self):
        named = [(NAMED[self.words[birth]], birth) for birth in self.births if self.words[birth] in NAMED]
        plain = [0, 1, -7, 10 ** 9, ("true",), ("false",), ("none",)]
        return self.chance.choice(named if named and self.chance.random() < 0.6 else plain)

    def deed(self):
        funs = [("fun", birth) for birth in self.births
                if self.words[birth] == "fun" and self.program.bodies[self.things[birth][1]][0] == 0]
        return self.chance.choice(funs) if funs and self.chance.random() < 0.95 else self.value()

    def fill(self, birth):
        word = self.words[birth]
        if word == "wait" and not self.fill_wait(birth):
            word = self.words[birth] = "mark"
        if word == "pass" and not [other for other in self.births if self.words[other] == "once"]:
            word = self.words[birth] = "wind"
        if word == "way" and not self.fill_way(birth):
            word = self.words[birth] = "mark"
        if word == "pair":
            self.things[birth] = (word, self.value(), self.value())
        elif word == "wind":
            self.things[birth] = (word, self.deed(), self.deed())
        elif word == "mark":
            self.things[birth] = (word,)
        elif word == "fun":
            body = self.things[birth][1]
            self.things[birth] = (word, body, tuple(self.value() for _ in range(self.program.bodies[body][1])))
        elif word == "pass":
            self.things[birth] = (word, self.chance.choice([other for other in self.births if self.words[other] == "once"]))

    def fill_wait(self, birth):
        place = self.chance.randrange(len(self.program.places))
        width = self.program.places[place][1]
        env = ()
        if self.outers[place] != -1:
            below = [thing for thing in self.things.values() if thing[:2] == ("wait", self.outers[place])]
            if not below:
                return False
            env = self.chance.choice(below)[2]
        self.things[birth] = ("wait", place, env + tuple(self.value() for _ in range(width - len(env))))
        return True

    def fill_way(self, birth):
        word = self.chance.choice(("to", "to", "on", "on", "off", "out"))
        callee = self.called()
        give, call = ("give", self.value()), ("call", callee, self.given(callee))
        if word == "off":
            self.things[birth] = ("way", ("off",), call)
        elif word == "out":
            self.things[birth] = ("way", ("out",), give)
        elif word == "to":
            row = self.row(True)
            winds = len([frame for frame in row if self.things[frame][0] == "wind"])
            self.things[birth] = ("way", ("to", row, self.chance.randint(0, winds)), give)
        else:
            row = self.row(False, "wind")
            if not row:
                return False
            self.things[birth] = ("way", ("on", row), self.chance.choice((give, call)))
        return True

    def fill_once(self):
        for birth in self.births:
            if self.words[birth] == "once":
                passes = [other for other in self.births if self.things.get(other) == ("pass", birth)]
                row = None
                if passes and self.chance.random() < 0.8:
                    top = self.chance.choice(passes)
                    row = self.row(True)
                    while row and self.things[row[-1]][0] != "mark" and row[-1] >= top:
                        row = row[:-1]
                    row = row + (top,)
                self.things[birth] = ("once", (), 1) if row is None else ("once", row, 0)

    def row(self, marks, first=None):
        """A random row of the frames that there are so far."""
        row = ()
        for _ in range(self.chance.randint(0, 7)):
            fit = [birth for birth, thing in self.things.items()
                   if thing[0] in FRAMES and (marks or thing[0] != "mark") and self.fits(row, birth, thing)
                   and (row or first is None or thing[0] == first)]
            if not fit:
                break
            # Mostly one of the next ones, so that rows grow long.
            row += (self.chance.choice(fit[:3] if self.chance.random() < 0.7 else fit),)
        return row

    def fits(self, row, birth, thing):
        below = self.things[row[-1]] if row else ("mark",)
        if thing[0] != "mark" and below[0] != "mark":
            least = thing[1][1][0] if thing[0] == "way" and thing[1][0] == "on" else birth
            if least <= row[-1]:
                return False
        if thing[0] == "wait" and self.outers[thing[1]] != -1:
            return below[:2] == ("wait", self.outers[thing[1]]) and thing[2][:len(below[2])] == below[2]
        return True


def well_standing(program, asks, seed, most=14):
    """A random standing that is well for a program and its inputs."""
    return StandingMaker(program, asks, seed, most).made()
