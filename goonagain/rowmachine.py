"""What the machines share that run the rows of a flat program as they are."""

from goonagain.machine import Machine


class RowMachine(Machine):
    """Runs rows; the machines below this class keep the present frames.

    Each of them pushes frames, makes rests, gives a value to the topmost frame, takes, and comes into winds.
    """

    def _push(self, frame):
        """Makes a frame, pushes it, and returns its birth."""
        raise NotImplementedError("each machine keeps frames in its own way")

    def _make_keep(self):
        """Makes a rest of the present frames; returns its birth."""
        raise NotImplementedError("each machine keeps frames in its own way")

    def _make_once(self):
        """Makes a once rest and its frame; returns the birth of the rest."""
        raise NotImplementedError("each machine keeps frames in its own way")

    def _given(self, worth):
        """Gives a value to the topmost frame: the rows and env that go on, or None and () at a stop."""
        raise NotImplementedError("each machine keeps frames in its own way")

    def _take_frames(self, callee):
        """Takes the frames above the nearest mark; the callee is called with them."""
        raise NotImplementedError("each machine keeps frames in its own way")

    def _come_into(self, enter, body, leave):
        """Comes into a wind."""
        raise NotImplementedError("each machine keeps frames in its own way")

    def _run(self, rows, env):
        """Runs rows up to the next call or the outcome."""
        while rows is not None:
            env = self._bound(rows, env)
            if env is None:
                return
            rows, env = self._finished(rows[-1], env)

    def _bound(self, rows, env):
        """The env behind all rows but the final one, or None behind a fault."""
        for row in rows[:-1]:
            more = self._bound_by(row, env)
            if more is None:
                return None
            env = env + more
        return env

    def _bound_by(self, row, env):
        """The values that a row puts at the end of env, or None behind a fault."""
        word = row[0]
        if word == "let":
            worth = self._simple(row[1], env)
            return None if worth is None else (worth,)
        if word == "rec":
            return self._make_funs(row[1], env)
        if word == "keep":
            return (("rest", self._make_keep()),)
        if word == "once":
            return (("rest", self._make_once()),)
        self._push(("mark",))
        return ()

    def _finished(self, row, env):
        """What a final row does: the rows and env that go on, or None and () at a stop."""
        word = row[0]
        if word == "wait":
            self._push(("wait", row[1], env))
            return (row[2], env)
        worths = self._simples(_final_simples(row), env)
        if worths is None:
            return (None, ())
        if word == "give":
            return self._given(worths[0])
        if word == "if":
            return (row[3] if worths[0] == ("false",) else row[2], env)
        if word == "call":
            self._stand_at(worths[0], worths[1:])
        elif word == "take":
            self._take_frames(worths[0])
        else:
            self._come_into(worths[0], worths[1], worths[2])
        return (None, ())

    def _simples(self, simples, env):
        """The values of simples from left to right, or None behind a fault."""
        worths = []
        for simple in simples:
            worth = self._simple(simple, env)
            if worth is None:
                return None
            worths.append(worth)
        return tuple(worths)

    def _simple(self, simple, env):
        """The value of a simple, or None behind a fault."""
        word = simple[0]
        if word == "value":
            return simple[1]
        if word == "slot":
            return env[simple[1]]
        if word == "fun":
            return self._make_funs((simple[1:],), env)[0]
        if word == "ask":
            return self._ask()
        worths = self._simples(simple[2] if word == "op" else simple[1:], env)
        if worths is None:
            return None
        return self._operate(simple[1], worths) if word == "op" else self._show(worths[0])


def _final_simples(row):
    """The simples of a final row other than wait, in the order of evaluation."""
    if row[0] == "call":
        return (row[1],) + row[2]
    if row[0] == "if":
        return row[1:2]
    return row[1:]
