"""Runs: one machine at a time carries a run, and whoever watches sees each text once and in order."""

from goonagain.errors import Ahead, BadCount, BadHandover, BadKind
from goonagain.meaning import KINDS, made_machine, restored_machine
from goonagain.readstand import read_standing
from goonagain.writestand import standing_text


class Leg:
    """The work of one machine: the first and the last call that it performed."""

    def __init__(self, kind, first, last):
        self.kind = kind
        self.first = first
        self.last = last

    def __eq__(self, other):
        return (
            isinstance(other, Leg) and self.kind == other.kind and self.first == other.first
            and self.last == other.last
        )


class Course:
    """What was seen of a whole run, and how it was carried."""

    def __init__(self, shows, end, calls, legs_done, texts):
        self.shows = shows
        self.end = end
        self.calls = calls
        self.legs_done = legs_done
        self.texts = texts


class Standpoint:
    """Where a run stands: a kind and a standing, or at an outcome the machine itself, which changes no more."""

    def __init__(self, kind, standing, machine, told_before):
        self.kind = kind
        self.standing = standing
        self.machine = machine
        self.told_before = told_before


class Run:
    """A run of a program."""

    def __init__(self, program, asks=(), *, kind="plain", fuel=2000):
        machine = made_machine(kind, program, asks, fuel)
        self.program = program
        self.machine = machine
        self._seen = ()
        # The legs of the machines before the present one, and how many calls they performed.
        self._legs_before = ()
        self._performed_before = 0
        # How many calls were performed and texts shown ahead of what the present machine does.
        self._calls_before = 0
        self._told_before = 0
        self._see()

    @property
    def seen(self):
        """The texts seen, in order."""
        return self._seen

    @property
    def legs(self):
        """The legs of all machines, the present one the last."""
        machine = self.machine
        return self._legs_before + (Leg(machine.KIND, self._calls_before + 1, machine.calls),)

    @property
    def performed(self):
        """How many calls were performed in all, those performed again included."""
        return self._performed_before + self.machine.calls - self._calls_before

    def texts_told(self):
        """How many texts the program has shown up to where the run stands."""
        return self._told_before + len(self.machine.shown)

    def go(self, many=1):
        """Performs up to so many calls; returns how many were performed."""
        check_count(many)
        first = self.machine.calls
        while self.machine.outcome is None and self.machine.calls - first < many:
            self.machine.advance()
        self._see()
        return self.machine.calls - first

    def finish(self):
        """Goes on to the outcome, which is returned."""
        while self.machine.outcome is None:
            self.machine.advance()
        self._see()
        return self.machine.outcome

    def written(self):
        """The text of the present standing, or None at an outcome."""
        if self.machine.outcome is not None:
            return None
        return standing_text(self.machine.standing())

    def hand(self, kind):
        """Hands the run to a new machine through a text, which is returned; None at an outcome."""
        check_kind(kind)
        text = self.written()
        if text is not None:
            self.settle(text, kind)
        return text

    def settle(self, text, kind):
        """Lets a new machine go on from the standing of a text."""
        check_kind(kind)
        standing = read_standing(text)
        if standing.shown > len(self._seen):
            raise Ahead(standing.shown)
        self._go_on_from(standing, kind)

    def standpoint(self):
        """Where the run stands."""
        machine = self.machine
        if machine.outcome is None:
            return Standpoint(machine.KIND, machine.standing(), None, self._told_before)
        return Standpoint(machine.KIND, None, machine, self._told_before)

    def put_back(self, point):
        """Lets the run go on from where it stood."""
        if point.machine is None:
            self._go_on_from(point.standing, point.kind)
        else:
            self._take_over(point.machine, point.told_before)

    def twin(self):
        """Another run that stands where this one stands and has seen the same."""
        machine = self.machine
        other = Run(self.program, machine.asks, kind=machine.KIND, fuel=machine.fuel)
        other._seen = self._seen
        other.put_back(self.standpoint())
        return other

    def _go_on_from(self, standing, kind):
        """Lets a new machine go on from a standing."""
        machine = restored_machine(kind, self.program, self.machine.asks, standing, self.machine.fuel)
        self._take_over(machine, standing.shown)

    def _take_over(self, machine, told):
        """Begins the leg of a machine ahead of whose work so many texts were shown."""
        self._legs_before = self.legs
        self._performed_before = self.performed
        self._calls_before = machine.calls
        self._told_before = told
        self.machine = machine

    def _see(self):
        """Sees the texts of the present machine that were not seen before."""
        known = len(self._seen) - self._told_before
        self._seen = self._seen + self.machine.shown[known:]


def run_course(program, asks=(), handovers=(), *, start="plain", fuel=2000):
    """Performs a whole run that is handed over ahead of some calls."""
    _check_handovers(handovers)
    run = Run(program, asks, kind=start, fuel=fuel)
    texts = []
    for calls, kind in handovers:
        run.go(calls - run.machine.calls)
        text = run.hand(kind)
        if text is not None:
            texts.append(text)
    end = run.finish()
    return Course(run.seen, end, run.machine.calls, run.legs, tuple(texts))


def _check_handovers(handovers):
    before = 0
    for index, handover in enumerate(handovers):
        if not isinstance(handover, tuple) or len(handover) != 2:
            raise BadHandover(index)
        calls, kind = handover
        if not is_count(calls) or calls < before or kind not in KINDS:
            raise BadHandover(index)
        before = calls


def is_count(many):
    """Whether any object is a whole number from 0."""
    return isinstance(many, int) and not isinstance(many, bool) and many >= 0


def check_count(many):
    """Raises BadCount for what is no number of calls or of entries."""
    if not is_count(many):
        raise BadCount(many)


def check_kind(kind):
    """Raises BadKind for what is none of the kinds."""
    if kind not in KINDS:
        raise BadKind(kind)
