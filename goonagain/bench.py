"""Benches: runs whose machine may be lost, and whose deeds can be taken back."""

from goonagain.cuts import Shelf, kept_standing
from goonagain.errors import BadDeed
from goonagain.meaning import KINDS
from goonagain.runs import Run, check_count, check_kind, is_count

# What stands behind the word of each deed.
SHAPES_OF_DEEDS = {
    "go": ("count",), "finish": (), "hand": ("kind",), "keep": (), "cut": ("count", "kind"), "back": (),
}


class Trial:
    """What deeds would do."""

    def __init__(self, news, end, calls, done):
        self.news = news
        self.end = end
        self.calls = calls
        self.done = done


class Account:
    """What was seen of a bench that was conducted, and what it took."""

    def __init__(self, shows, end, calls, work, legs_done, done):
        self.shows = shows
        self.end = end
        self.calls = calls
        self.work = work
        self.legs_done = legs_done
        self.done = done


def check_deeds(deeds):
    """Raises BadDeed for the first deed that is none."""
    for index, deed in enumerate(deeds):
        if not _is_deed(deed):
            raise BadDeed(index)


def _is_deed(deed):
    if not isinstance(deed, tuple) or not deed or not isinstance(deed[0], str):
        return False
    shape = SHAPES_OF_DEEDS.get(deed[0])
    if shape is None or len(shape) != len(deed) - 1:
        return False
    return all([is_count(item) if kind == "count" else item in KINDS for kind, item in zip(shape, deed[1:])])


class Bench:
    """A run with a shelf and a history; the shelf of an idle bench is None."""

    def __init__(self, program, asks=(), *, kind="plain", fuel=2000):
        self._present_run = Run(program, asks, kind=kind, fuel=fuel)
        first = kept_standing(self._present_run)
        self.shelf = None if first is None else Shelf(first)
        # Where the run stood and what was on the shelf ahead of each deed that can be taken back.
        self._history = []

    @property
    def seen(self):
        """The texts seen, in order."""
        return self._present_run.seen

    @property
    def legs(self):
        """The legs of all machines."""
        return self._present_run.legs

    @property
    def performed(self):
        """How many calls were performed in all."""
        return self._present_run.performed

    @property
    def stands_at(self):
        """The calls of the program up to where the run stands."""
        return self._present_run.machine.calls

    @property
    def carried_by(self):
        """The kind of the present machine."""
        machine = self._present_run.machine
        return machine.KIND

    @property
    def ended(self):
        """The outcome, or None at a call."""
        return self._present_run.machine.outcome

    def go(self, many=1):
        """Performs up to so many calls."""
        check_count(many)
        if self.ended is not None or many == 0:
            return False
        self._note()
        self._present_run.go(many)
        return True

    def finish(self):
        """Goes on to the outcome."""
        if self.ended is not None:
            return False
        self._note()
        self._present_run.finish()
        return True

    def hand(self, kind):
        """Hands the run to a new machine."""
        check_kind(kind)
        if self.ended is not None:
            return False
        self._note()
        self._present_run.hand(kind)
        return True

    def keep(self):
        """Puts the present standing on the shelf."""
        if self.ended is not None:
            return False
        self._note()
        self.shelf.put(kept_standing(self._present_run))
        return True

    def cut(self, lost=0, kind="plain"):
        """Loses the machine and the last entries of the shelf; a new machine goes on from the one that is left."""
        check_count(lost)
        check_kind(kind)
        if self.shelf is None:
            return False
        self._note()
        self.shelf.lose(lost)
        self._present_run.settle(self.shelf.latest().text, kind)
        return True

    def take_back(self):
        """Puts the bench back to where it was ahead of the last deed that was not taken back."""
        if not self._history:
            return False
        point, row = self._history.pop()
        self._present_run.put_back(point)
        self.shelf = _shelf_of(row)
        return True

    def perform(self, *deeds):
        """Performs deeds that are told as data; returns what each of them returned."""
        check_deeds(deeds)
        return tuple([self._done(deed) for deed in deeds])

    def trial(self, deeds):
        """What deeds would do on a bench that stands alike and has an empty history."""
        run = self._present_run
        other = Bench(run.program, run.machine.asks, fuel=run.machine.fuel)
        other._present_run = run.twin()
        if self.shelf is not None:
            other.shelf = _shelf_of(self.shelf.all_kept())
        done = other.perform(*deeds)
        return Trial(other.seen[len(self.seen):], other.ended, other.stands_at, done)

    def _note(self):
        """Notes where the bench stands, ahead of a deed."""
        self._history.append((self._present_run.standpoint(), self.shelf.all_kept()))

    def _done(self, deed):
        """Performs a deed that is told as data."""
        word = deed[0]
        if word == "go":
            return self.go(deed[1])
        if word == "finish":
            return self.finish()
        if word == "hand":
            return self.hand(deed[1])
        if word == "keep":
            return self.keep()
        if word == "cut":
            return self.cut(deed[1], deed[2])
        return self.take_back()


def _shelf_of(row):
    """A shelf with these kept standings."""
    shelf = Shelf(row[0])
    for kept in row[1:]:
        shelf.put(kept)
    return shelf


def conduct(program, asks, deeds, *, kind="plain", fuel=2000):
    """Performs deeds on a new bench, then goes on to the outcome; returns what came of it."""
    check_deeds(deeds)
    bench = Bench(program, asks, kind=kind, fuel=fuel)
    done = bench.perform(*deeds)
    bench.finish()
    return Account(bench.seen, bench.ended, bench.stands_at, bench.performed, bench.legs, done)
