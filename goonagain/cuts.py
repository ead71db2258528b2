"""Standings of a run that are kept, from which it goes on when its machine is lost."""

from goonagain.errors import BadKept
from goonagain.runs import check_count


class Kept:
    """A kept standing: its calls, how many texts it has shown, and its text."""

    def __init__(self, calls, told, text):
        self.calls = calls
        self.told = told
        self.text = text

    def __eq__(self, other):
        return (
            isinstance(other, Kept) and self.calls == other.calls and self.told == other.told
            and self.text == other.text
        )


class Shelf:
    """A row of kept standings, the first of which is never dropped."""

    def __init__(self, first):
        self._row = (first,)

    def __iter__(self):
        return iter(self._row)

    def put(self, kept):
        """Puts a kept standing at the end."""
        if kept.calls < self.latest().calls:
            raise BadKept(kept.calls)
        self._row = self._row + (kept,)

    def lose(self, many):
        """Drops the last ones, but for the first of all; returns how many were dropped."""
        check_count(many)
        dropped = min(many, len(self._row) - 1)
        self._row = self._row[:len(self._row) - dropped]
        return dropped

    def latest(self):
        """The last kept standing."""
        return self._row[-1]

    def all_kept(self):
        """All kept standings in order."""
        return self._row


def kept_standing(run):
    """The present standing of a run, kept; None at an outcome."""
    text = run.written()
    if text is None:
        return None
    return Kept(run.machine.calls, run.texts_told(), text)
