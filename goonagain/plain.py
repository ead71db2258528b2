"""The plain machine: its rest is a bare tuple of frames."""

from goonagain.rowmachine import RowMachine
from goonagain.ways import lay_on, mark_cut, next_step


class PlainMachine(RowMachine):
    """Runs a program with a tuple of frames."""

    KIND = "plain"

    def __init__(self, program, asks=(), fuel=2000):
        super().__init__(program, asks, fuel)
        self._frames = ()
        self._run(program.bodies[0][2], ())
        self._gather_shown()

    def standing(self):
        """The present standing, or None at an outcome."""
        if self.outcome is not None:
            return None
        return self._standing_with(self._frames)

    @staticmethod
    def restored(program, asks, standing, fuel=2000):
        """A machine that goes on from a standing."""
        # What the new machine did by itself up to its first call is all put aside.
        machine = PlainMachine(program, asks, fuel)
        machine._put_back(standing)
        machine._frames = tuple(standing.frames)
        return machine

    def _perform(self):
        birth = self._callee[1]
        thing = self._things[birth]
        if thing[0] == "fun":
            self._run(self.program.bodies[thing[1]][2], self._handed + thing[2])
            return
        then = ("give", self._handed[0])
        if thing[0] == "piece":
            mark = self._make(("mark",))
            step = lay_on(self._frames + (mark,), thing[1], self._things)
        else:
            step = next_step(self._frames, ("to", thing[1], 0), self._things)
        self._follow(step, then)

    def _follow(self, step, then):
        """Takes a step of a road, and runs on if it arrives with a value."""
        worth = self._stepped(step, then)
        if worth is not None:
            rows, env = self._given(worth)
            self._run(rows, env)

    def _stepped(self, step, then):
        """Takes a step of a road; the value that is to be given now, or None at a call."""
        word, deed, frames, road = step
        if word != "arrive":
            self._frames = frames
            self._push(("way", road, then))
            self._stand_at(deed, ())
            return None
        self._frames = frames
        if then[0] == "give":
            return then[1]
        self._stand_at(then[1], then[2])
        return None

    def _push(self, frame):
        """Makes a frame, pushes it, and returns its birth."""
        birth = self._make(frame)
        self._frames = self._frames + (birth,)
        return birth

    def _given(self, worth):
        """Gives a value to the topmost frame: the rows and env that go on, or None and () at a stop."""
        while self._frames and worth is not None:
            frame = self._things[self._frames[-1]]
            self._frames = self._frames[:-1]
            if frame[0] == "wait":
                return (self.program.places[frame[1]][2], frame[2] + (worth,))
            worth = self._passed_on(frame, worth)
        if worth is not None:
            self.outcome = ("end",)
        return (None, ())

    def _passed_on(self, frame, worth):
        """The value that a frame without rows gives on, or None at a call or a fault."""
        word = frame[0]
        if word == "mark":
            return worth
        if word == "pass":
            return self._passed_once(frame[1], worth)
        if word == "wind":
            return self._stepped(("leave", frame[2], self._frames, ("out",)), ("give", worth))
        return self._stepped(next_step(self._frames, frame[1], self._things), frame[2])

    def _make_keep(self):
        """Makes a rest of the present frames; returns its birth."""
        return self._make(("keep", self._frames))

    def _make_once(self):
        """Makes a once rest and its frame, which the rest itself has on top."""
        rest = self._make(("once", (), 0))
        self._push(("pass", rest))
        self._things[rest] = ("once", self._frames, 0)
        return rest

    def _take_frames(self, callee):
        """Takes the frames above the nearest mark."""
        cut = mark_cut(self._frames, self._things)
        piece = self._make(("piece", self._frames[cut:]))
        step = next_step(self._frames, ("off",), self._things)
        self._stepped(step, ("call", callee, (("rest", piece),)))

    def _come_into(self, enter, body, leave):
        """Comes into a wind."""
        birth = self._make(("wind", enter, leave))
        self._stepped(("enter", enter, self._frames, ("on", (birth,))), ("call", body, ()))
