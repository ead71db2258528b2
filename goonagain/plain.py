"""The plain machine: its rest is a bare tuple of frames."""

from goonagain.machine import Machine
from goonagain.ways import lay_on, mark_cut, next_step


class PlainMachine(Machine):
    """Runs a program with a tuple of frames."""

    KIND = "plain"

    def __init__(self, program, asks=(), fuel=2000):
        super().__init__(program, asks, fuel)
        self._frames = ()
        self._run(program.bodies[0][2], ())
        self._gather_shown()

    def standing(self):
        """The present standing, or None at an outcome."""
        if self.outcome is not None:
            return None
        return self._standing_with(self._frames)

    @staticmethod
    def restored(program, asks, standing, fuel=2000):
        """A machine that goes on from a standing."""
        # What the new machine did by itself up to its first call is all put aside.
        machine = PlainMachine(program, asks, fuel)
        machine._put_back(standing)
        machine._frames = tuple(standing.frames)
        return machine

    def _perform(self):
        birth = self._callee[1]
        thing = self._things[birth]
        if thing[0] == "fun":
            self._run(self.program.bodies[thing[1]][2], self._handed + thing[2])
            return
        then = ("give", self._handed[0])
        if thing[0] == "piece":
            mark = self._make(("mark",))
            step = lay_on(self._frames + (mark,), thing[1], self._things)
        else:
            step = next_step(self._frames, ("to", thing[1], 0), self._things)
        self._follow(step, then)

    def _follow(self, step, then):
        """Takes a step of a road, and runs on if it arrives with a value."""
        worth = self._stepped(step, then)
        if worth is not None:
            rows, env = self._given(worth)
            self._run(rows, env)

    def _stepped(self, step, then):
        """Takes a step of a road; the value that is to be given now, or None at a call."""
        word, deed, frames, road = step
        if word != "arrive":
            self._frames = frames
            self._push(("way", road, then))
            self._stand_at(deed, ())
            return None
        self._frames = frames
        if then[0] == "give":
            return then[1]
        self._stand_at(then[1], then[2])
        return None

    def _push(self, frame):
        """Makes a frame, pushes it, and returns its birth."""
        birth = self._make(frame)
        self._frames = self._frames + (birth,)
        return birth

    def _given(self, worth):
        """Gives a value to the topmost frame: the rows and env that go on, or None and () at a stop."""
        while self._frames and worth is not None:
            frame = self._things[self._frames[-1]]
            self._frames = self._frames[:-1]
            if frame[0] == "wait":
                return (self.program.places[frame[1]][2], frame[2] + (worth,))
            worth = self._passed_on(frame, worth)
        if worth is not None:
            self.outcome = ("end",)
        return (None, ())

    def _passed_on(self, frame, worth):
        """The value that a frame without rows gives on, or None at a call or a fault."""
        word = frame[0]
        if word == "mark":
            return worth
        if word == "pass":
            return self._passed_once(frame[1], worth)
        if word == "wind":
            return self._stepped(("leave", frame[2], self._frames, ("out",)), ("give", worth))
        return self._stepped(next_step(self._frames, frame[1], self._things), frame[2])

    def _run(self, rows, env):
        """Runs rows up to the next call or the outcome."""
        while rows is not None:
            env = self._bound(rows, env)
            if env is None:
                return
            rows, env = self._finished(rows[-1], env)

    def _bound(self, rows, env):
        """The env behind all rows but the final one, or None behind a fault."""
        for row in rows[:-1]:
            more = self._bound_by(row, env)
            if more is None:
                return None
            env = env + more
        return env

    def _bound_by(self, row, env):
        """The values that a row puts at the end of env, or None behind a fault."""
        word = row[0]
        if word == "let":
            worth = self._simple(row[1], env)
            return None if worth is None else (worth,)
        if word == "rec":
            return self._make_funs(row[1], env)
        if word == "keep":
            return (("rest", self._make(("keep", self._frames))),)
        if word == "once":
            return (("rest", self._make_once()),)
        self._push(("mark",))
        return ()

    def _make_once(self):
        """Makes a once rest and its frame, which the rest itself has on top."""
        rest = self._make(("once", (), 0))
        self._push(("pass", rest))
        self._things[rest] = ("once", self._frames, 0)
        return rest

    def _finished(self, row, env):
        """What a final row does: the rows and env that go on, or None and () at a stop."""
        word = row[0]
        if word == "wait":
            self._push(("wait", row[1], env))
            return (row[2], env)
        worths = self._simples(_final_simples(row), env)
        if worths is None:
            return (None, ())
        if word == "give":
            return self._given(worths[0])
        if word == "if":
            return (row[3] if worths[0] == ("false",) else row[2], env)
        if word == "call":
            self._stand_at(worths[0], worths[1:])
        elif word == "take":
            return self._taken(worths[0])
        else:
            self._wound(worths)
        return (None, ())

    def _taken(self, callee):
        """Takes the frames above the nearest mark."""
        cut = mark_cut(self._frames, self._things)
        piece = self._make(("piece", self._frames[cut:]))
        step = next_step(self._frames, ("off",), self._things)
        self._stepped(step, ("call", callee, (("rest", piece),)))
        return (None, ())

    def _wound(self, worths):
        """Comes into a wind."""
        enter, body, leave = worths
        birth = self._make(("wind", enter, leave))
        self._stepped(("enter", enter, self._frames, ("on", (birth,))), ("call", body, ()))

    def _simples(self, simples, env):
        """The values of simples from left to right, or None behind a fault."""
        worths = []
        for simple in simples:
            worth = self._simple(simple, env)
            if worth is None:
                return None
            worths.append(worth)
        return tuple(worths)

    def _simple(self, simple, env):
        """The value of a simple, or None behind a fault."""
        word = simple[0]
        if word == "value":
            return simple[1]
        if word == "slot":
            return env[simple[1]]
        if word == "fun":
            return self._make_funs((simple[1:],), env)[0]
        if word == "ask":
            return self._ask()
        worths = self._simples(simple[2] if word == "op" else simple[1:], env)
        if worths is None:
            return None
        return self._operate(simple[1], worths) if word == "op" else self._show(worths[0])


def _final_simples(row):
    """The simples of a final row other than wait, in the order of evaluation."""
    if row[0] == "call":
        return (row[1],) + row[2]
    if row[0] == "if":
        return row[1:2]
    return row[1:]
