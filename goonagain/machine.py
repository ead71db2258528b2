"""What the machines share: inputs, values, operations, calls and outcomes."""

from goonagain.errors import BadAsks
from goonagain.standing import Standing, reached_by
from goonagain.values import FALSE, GREATEST, NONE, TRUE, is_whole

MOST_ASKS = 40
MOST_PAIRS = 20
NUMBER_WORDS = ("+", "-", "*", "quot", "rem", "<", "=")
KIND_WORDS = {"pair?": "pair", "none?": "none", "rest?": "rest", "fun?": "fun"}


class Seen:
    """What was seen of a run: the texts shown, and how it ended."""

    def __init__(self, shows, end):
        self.shows = shows
        self.end = end

    def __eq__(self, other):
        return isinstance(other, Seen) and self.shows == other.shows and self.end == other.end


def run_seen(machine):
    """Advances a machine to its outcome and tells what was seen."""
    while machine.outcome is None:
        machine.advance()
    return Seen(machine.shown, machine.outcome)


def checked_asks(asks):
    """The inputs as a tuple; raises BadAsks."""
    if not isinstance(asks, (list, tuple)):
        raise BadAsks(0)
    for index, ask in enumerate(asks):
        if index == MOST_ASKS or not is_whole(ask) or not -GREATEST <= ask <= GREATEST:
            raise BadAsks(index)
    return tuple(asks)


def truth(holds):
    """The value that says whether something holds."""
    return TRUE if holds else FALSE


def number_answer(word, first, second):
    """What an operation on two numbers gives: (fault, None) or (None, value)."""
    if not isinstance(first, int) or not isinstance(second, int):
        return ("kind", None)
    if word == "<":
        return (None, truth(first < second))
    if word == "=":
        return (None, truth(first == second))
    if word in ("quot", "rem") and second == 0:
        return ("zero", None)
    answer = _worked_out(word, first, second)
    if not -GREATEST <= answer <= GREATEST:
        return ("big", None)
    return (None, answer)


def _worked_out(word, first, second):
    if word == "+":
        return first + second
    if word == "-":
        return first - second
    if word == "*":
        return first * second
    # The greatest integer not above the quotient, also below 0.
    quotient = first // second
    return quotient if word == "quot" else first - second * quotient


def shown_text(value, kind_of, sides_of):
    """The text of a value, or None if too many pairs come to be written.

    kind_of gives the kind of a value as a word, sides_of the left and right of a pair.
    """
    texts = []
    pairs = 0
    # What is still to be written, the next one last: signs as they are, each value in a tuple.
    waiting = [(value,)]
    while waiting:
        item = waiting.pop()
        kind = "sign" if isinstance(item, str) else kind_of(item[0])
        if kind == "sign":
            texts.append(item)
        elif kind == "pair":
            if pairs == MOST_PAIRS:
                return None
            pairs += 1
            left, right = sides_of(item[0])
            waiting.extend([")", (right,), " ", (left,), "("])
        elif kind == "number":
            texts.append(str(item[0]))
        else:
            texts.append("<" + kind + ">" if kind in ("fun", "rest") else kind)
    return "".join(texts)


class Machine:
    """A machine stands at a call or at an outcome; the four machines stand below this class.

    Each of them runs up to the first call when it is made, and says how a call is performed.
    """

    KIND = "none"

    def __init__(self, program, asks=(), fuel=2000):
        self.program = program
        self.asks = checked_asks(asks)
        self.fuel = fuel
        self.calls = 0
        self.outcome = None
        self.copied = 0
        self.asked = 0
        self.shown = ()
        self._things = {}
        self._born = 0
        self._callee = None
        self._handed = ()
        self._told_before = 0
        self._new_texts = []

    def advance(self):
        """Performs the present call and runs up to the next call or the outcome."""
        if self.outcome is not None:
            return
        if self.calls >= self.fuel:
            self.outcome = ("fuel",)
            return
        self.calls += 1
        fault = self._call_fault()
        if fault is None:
            self._perform()
        else:
            self._fail(fault)
        self._gather_shown()

    def _perform(self):
        """Performs the present call, which has no fault; each machine has its own way."""
        raise NotImplementedError("each machine performs calls in its own way")

    def _gather_shown(self):
        # The tuple grows once for each call, as a run may show very many texts.
        if self._new_texts:
            self.shown = self.shown + tuple(self._new_texts)
            self._new_texts = []

    def _fail(self, word):
        self.outcome = ("fault", word)

    def _stand_at(self, callee, handed):
        self._callee = callee
        self._handed = handed

    def _standing_with(self, frames):
        """The standing with these present frames."""
        things = reached_by(self._callee, self._handed, frames, self._told_thing)
        told = self._told_before + len(self.shown)
        return Standing(
            self._callee, self._handed, frames, things, self._born, self.calls, self.asked, told
        )

    def _told_thing(self, birth):
        """The thing of a birth as a standing tells it."""
        return self._things[birth]

    def _put_back(self, standing):
        """Makes all but the frames as they were when a standing was told."""
        self.copied = 0
        self.calls = standing.calls
        self.asked = standing.asked
        self.outcome = None
        self.shown = ()
        self._things = {birth: thing for birth, thing in standing.things}
        self._born = standing.born
        self._told_before = standing.shown
        self._stand_at(standing.callee, tuple(standing.handed))

    def _next_birth(self):
        self._born += 1
        return self._born

    def _make(self, thing):
        """Makes a thing; returns its birth."""
        birth = self._next_birth()
        self._things[birth] = thing
        return birth

    def _make_funs(self, funs, env):
        """Makes funs of (body, slots); the slots count the new funs behind env. Returns their values."""
        made = tuple([("fun", self._born + number) for number in range(1, len(funs) + 1)])
        inside = env + made
        for body, slots in funs:
            self._make(("fun", body, tuple([inside[slot] for slot in slots])))
        return made

    def _call_fault(self):
        """The word of the fault of the present call, or None."""
        kind = _kind_of(self._callee)
        if kind not in ("fun", "rest"):
            return "kind"
        thing = self._things[self._callee[1]]
        wanted = self.program.bodies[thing[1]][0] if kind == "fun" else 1
        if len(self._handed) != wanted:
            return "arity"
        if thing[0] == "once" and thing[2] == 1:
            return "once"
        return None

    def _passed_once(self, rest, worth):
        """The value that the place of a once rest gives on, or None behind a fault."""
        if self._things[rest][2] == 1:
            self._fail("once")
            return None
        self._things[rest] = ("once", (), 1)
        return worth

    def _ask(self):
        if self.asked == len(self.asks):
            return NONE
        self.asked += 1
        return self.asks[self.asked - 1]

    def _show(self, value):
        """Shows a value and gives it, or None behind a fault."""
        text = shown_text(value, _kind_of, lambda pair: self._things[pair[1]][1:])
        if text is None:
            self._fail("show")
            return None
        self._new_texts.append(text)
        return value

    def _operate(self, word, values):
        """The value of an operation, or None behind a fault."""
        if word in NUMBER_WORDS:
            fault, answer = number_answer(word, values[0], values[1])
            if fault is not None:
                self._fail(fault)
            return answer
        if word == "pair":
            return ("pair", self._make(("pair", values[0], values[1])))
        if word == "same?":
            return truth(values[0] == values[1])
        if word in KIND_WORDS:
            return truth(_kind_of(values[0]) == KIND_WORDS[word])
        if _kind_of(values[0]) != "pair":
            self._fail("kind")
            return None
        return self._use_pair(word, values)

    def _use_pair(self, word, values):
        birth = values[0][1]
        _, left, right = self._things[birth]
        if word == "left":
            return left
        if word == "right":
            return right
        if word == "left!":
            self._things[birth] = ("pair", values[1], right)
        else:
            self._things[birth] = ("pair", left, values[1])
        return NONE


def _kind_of(value):
    return "number" if isinstance(value, int) else value[0]
