"""The walker: runs a tree as it was read, with rests that are functions of their own.

A rest is a function of one couple: the value that comes, and the spot below the nearest mark at that moment.
So what lies above a mark knows nothing of what lies below it, and can be laid on anything.
"""

from goonagain.bounce import Bounce, run_bounces
from goonagain.machine import KIND_WORDS, NUMBER_WORDS, Seen, checked_asks, number_answer, shown_text, truth

NONE_VALUE = ("none",)

# The side of a pair that an operation reads or exchanges.
SIDES = {"left": 0, "right": 1, "left!": 0, "right!": 1}


class Walked:
    """What was seen of a run, and how it was performed."""

    def __init__(self, shows, end, calls, asked, deeds):
        self.shows = shows
        self.end = end
        self.calls = calls
        self.asked = asked
        self.deeds = deeds

    def __eq__(self, other):
        return (
            isinstance(other, Walked) and self.shows == other.shows and self.end == other.end
            and self.calls == other.calls and self.asked == other.asked and self.deeds == other.deeds
        )


class Walk:
    """The state of one run."""

    def __init__(self, asks, fuel):
        self.asks = asks
        self.fuel = fuel
        self.calls = 0
        self.asked = 0
        self.shows = []
        self.deeds = []
        self.end = ("end",)


class Cell:
    """One binding of a name."""

    def __init__(self, worth):
        self.worth = worth


class Couple:
    """A pair of the language: a list of its two values."""

    def __init__(self, sides):
        self.sides = sides


class Fun:
    """A fun of the language: its names, its body, and the cells of the names around it."""

    def __init__(self, names, body, scope):
        self.names = names
        self.body = body
        self.scope = scope


class Rest:
    """A rest of the language: a function of a value and a spot, and for a once rest the cell that tells its use."""

    def __init__(self, go_on, used=None):
        self.go_on = go_on
        self.used = used


class Wind:
    """A wind: its deeds, the rest below it, and the winds below it up to the nearest mark."""

    def __init__(self, enter, leave, rest, below):
        self.enter = enter
        self.leave = leave
        self.rest = rest
        self.below = below


class Spot:
    """Where a run is: its rest and winds up to the nearest mark, and the spot below that mark."""

    def __init__(self, rest, winds, outer):
        self.rest = rest
        self.winds = winds
        self.outer = outer
        self.many = len(winds) + (0 if outer is None else outer.many)


def walk(tree, asks=(), fuel=2000):
    """Runs a tree; what was seen of the run."""
    walked = walk_counted(tree, asks, fuel)
    return Seen(walked.shows, walked.end)


def walk_counted(tree, asks=(), fuel=2000):
    """Runs a tree; what was seen, and how many calls, inputs and deeds it took."""
    run = Walk(checked_asks(asks), fuel)
    bounce = _evaluated(run, tree, {}, Spot(_bottom, (), None))
    while bounce is not None:
        _, bounce = run_bounces(bounce)
    return Walked(tuple(run.shows), run.end, run.calls, run.asked, tuple(run.deeds))


def _bottom(came):
    """The rest directly above a mark, or at the bottom: it gives the value on to what lies below the mark."""
    return None if came[1] is None else _given(came[1], came[0])


def _given(spot, worth):
    return Bounce(spot.rest, (worth, spot.outer))


def _evaluated(run, tree, scope, spot):
    """The bounce that evaluates a form and gives its value to a spot."""
    action = FORMS[tree[0]]
    return Bounce(lambda place: action(run, tree, scope, place), spot)


def _failed(run, word):
    run.end = ("fault", word)


def _with_values(run, trees, scope, spot, use, worths=()):
    """Evaluates the trees from left to right; use takes the tuple of values and the spot."""
    if len(worths) == len(trees):
        return use(worths, spot)

    # The values so far are a tuple, as this rest may be gone on with more than once.
    def rest(came):
        worth, outer = came
        below = Spot(spot.rest, spot.winds, outer)
        return _with_values(run, trees, scope, below, use, worths + (worth,))

    return _evaluated(run, trees[len(worths)], scope, Spot(rest, spot.winds, spot.outer))


def _bound(scope, names, worths):
    """The scope with new cells for names."""
    inside = dict(scope)
    for name, worth in zip(names, worths):
        inside[name] = Cell(worth)
    return inside


def _walk_literal(run, tree, scope, spot):
    # The tree of true, false or none is that value itself.
    return _given(spot, tree[1] if tree[0] == "number" else tree)


def _walk_name(run, tree, scope, spot):
    return _given(spot, scope[tree[1]].worth)


def _walk_fn(run, tree, scope, spot):
    return _given(spot, Fun(tree[1], tree[2], scope))


def _walk_let(run, tree, scope, spot):
    names = tuple([name for name, _ in tree[1]])
    sides = tuple([side for _, side in tree[1]])

    def use(worths, place):
        return _evaluated(run, tree[2], _bound(scope, names, worths), place)

    return _with_values(run, sides, scope, spot, use)


def _walk_rec(run, tree, scope, spot):
    inside = dict(scope)
    # Each fun has the scope itself, so it comes to know the names behind it.
    for name, side in tree[1]:
        inside[name] = Cell(Fun(side[1], side[2], inside))
    return _evaluated(run, tree[2], inside, spot)


def _walk_set(run, tree, scope, spot):
    def use(worths, place):
        cell = scope[tree[1]]
        cell.worth = worths[0]
        return _given(place, NONE_VALUE)

    return _with_values(run, (tree[2],), scope, spot, use)


def _walk_if(run, tree, scope, spot):
    def use(worths, place):
        return _evaluated(run, tree[3] if worths[0] == ("false",) else tree[2], scope, place)

    return _with_values(run, (tree[1],), scope, spot, use)


def _walk_do(run, tree, scope, spot):
    def use(worths, place):
        return _evaluated(run, tree[1][-1], scope, place)

    return _with_values(run, tree[1][:-1], scope, spot, use)


def _walk_call(run, tree, scope, spot):
    def use(worths, place):
        return _called(run, worths[0], worths[1:], place)

    return _with_values(run, (tree[1],) + tree[2], scope, spot, use)


def _walk_keep(run, tree, scope, spot):
    kept = Rest(lambda worth, place: _travel(run, place, spot, worth))
    return _evaluated(run, tree[2], _bound(scope, (tree[1],), (kept,)), spot)


def _walk_once(run, tree, scope, spot):
    used = Cell(False)

    def passed(came):
        if used.worth:
            return _failed(run, "once")
        used.worth = True
        return Bounce(spot.rest, came)

    inner = Spot(passed, spot.winds, spot.outer)
    kept = Rest(lambda worth, place: _travel(run, place, inner, worth), used)
    return _evaluated(run, tree[2], _bound(scope, (tree[1],), (kept,)), inner)


def _walk_take(run, tree, scope, spot):
    piece = Rest(lambda worth, place: _laid_on(run, spot, 0, place, worth))
    taker = Fun((tree[1],), tree[2], scope)
    return _taken_off(run, spot, lambda place: _called(run, taker, (piece,), place))


def _walk_mark(run, tree, scope, spot):
    return _evaluated(run, tree[1], scope, Spot(_bottom, (), spot))


def _walk_wind(run, tree, scope, spot):
    def use(worths, place):
        return _wound(run, worths[0], Fun((), tree[2], scope), worths[1], place)

    return _with_values(run, (tree[1], tree[3]), scope, spot, use)


def _walk_show(run, tree, scope, spot):
    def use(worths, place):
        text = shown_text(worths[0], _kind_of, lambda couple: couple.sides)
        if text is None:
            return _failed(run, "show")
        run.shows.append(text)
        return _given(place, worths[0])

    return _with_values(run, (tree[1],), scope, spot, use)


def _walk_ask(run, tree, scope, spot):
    if run.asked == len(run.asks):
        return _given(spot, NONE_VALUE)
    run.asked += 1
    return _given(spot, run.asks[run.asked - 1])


def _walk_op(run, tree, scope, spot):
    def use(worths, place):
        fault, answer = _operated(tree[1], worths)
        return _given(place, answer) if fault is None else _failed(run, fault)

    return _with_values(run, tree[2], scope, spot, use)


def _kind_of(worth):
    if isinstance(worth, int):
        return "number"
    if isinstance(worth, Couple):
        return "pair"
    if isinstance(worth, Fun):
        return "fun"
    return "rest" if isinstance(worth, Rest) else worth[0]


def _operated(word, worths):
    """What an operation gives: (fault, None) or (None, value)."""
    first = worths[0]
    if word in NUMBER_WORDS:
        return number_answer(word, first, worths[1])
    if word == "pair":
        return (None, Couple(list(worths)))
    if word == "same?":
        # Pairs, funs and rests are equal only to themselves.
        return (None, truth(first == worths[1]))
    if word in KIND_WORDS:
        return (None, truth(_kind_of(first) == KIND_WORDS[word]))
    if not isinstance(first, Couple):
        return ("kind", None)
    if len(worths) == 1:
        return (None, first.sides[SIDES[word]])
    first.sides[SIDES[word]] = worths[1]
    return (None, NONE_VALUE)


def _called(run, callee, handed, spot, deed=None):
    """Performs a call at a spot; deed is its word if it is the call of a wind's deed."""
    if run.calls >= run.fuel:
        run.end = ("fuel",)
        return None
    run.calls += 1
    if deed is not None:
        run.deeds.append((deed, spot.many))
    if not isinstance(callee, (Fun, Rest)):
        return _failed(run, "kind")
    wanted = len(callee.names) if isinstance(callee, Fun) else 1
    if len(handed) != wanted:
        return _failed(run, "arity")
    if isinstance(callee, Fun):
        return _evaluated(run, callee.body, _bound(callee.scope, callee.names, handed), spot)
    if callee.used is not None and callee.used.worth:
        return _failed(run, "once")
    return callee.go_on(handed[0], spot)


def _deed(run, word, wind, outer, then):
    """Calls a deed of a wind with what lies below it; then goes on from where the deed gives a value."""
    def rest(came):
        return then(Spot(wind.rest, wind.below, came[1]))

    callee = wind.enter if word == "enter" else wind.leave
    return _called(run, callee, (), Spot(rest, wind.below, outer), word)


def _wound(run, enter, body, leave, spot):
    """Comes into a wind at a spot, and calls its body."""
    wind = Wind(enter, leave, spot.rest, spot.winds)
    winds = spot.winds + (wind,)

    def rest(came):
        worth, outer = came
        return _deed(run, "leave", wind, outer, lambda place: _given(place, worth))

    return _deed(run, "enter", wind, spot.outer, lambda place: _called(run, body, (), Spot(rest, winds, place.outer)))


def _taken_off(run, spot, then):
    """Leaves the winds up to the nearest mark, the topmost first; then goes on directly above the mark."""
    if not spot.winds:
        return then(Spot(_bottom, (), spot.outer))
    return _deed(run, "leave", spot.winds[-1], spot.outer, lambda place: _taken_off(run, place, then))


def _laid_on(run, piece, many, outer, worth):
    """Lays a piece above a mark on outer, from behind its first many winds on, and gives it a value."""
    if many == len(piece.winds):
        return _given(Spot(piece.rest, piece.winds, outer), worth)
    wind = piece.winds[many]
    return _deed(run, "enter", wind, outer, lambda place: _laid_on(run, piece, many + 1, place.outer, worth))


def _all_winds(spot):
    """All winds of a spot as (wind, the spot below its mark), bottom first."""
    winds = []
    while spot is not None:
        winds = [(wind, spot.outer) for wind in spot.winds] + winds
        spot = spot.outer
    return winds


def _travel(run, present, goal, worth):
    """Goes from a spot to another one, leaving and entering winds, and gives it a value."""
    left = _all_winds(present)
    entered = _all_winds(goal)
    shared = 0
    while shared < min(len(left), len(entered)) and left[shared][0] == entered[shared][0]:
        shared += 1
    if shared == len(left):
        return _entered(run, entered, shared, goal, worth)
    wind, outer = left[-1]
    return _deed(run, "leave", wind, outer, lambda place: _travel(run, place, goal, worth))


def _entered(run, winds, many, goal, worth):
    """Enters all winds of a goal behind the first many of them, bottom first, and gives it a value."""
    if many == len(winds):
        return _given(goal, worth)
    wind, outer = winds[many]
    return _deed(run, "enter", wind, outer, lambda place: _entered(run, winds, many + 1, goal, worth))


# What walks each form.
FORMS = {
    "number": _walk_literal, "true": _walk_literal, "false": _walk_literal, "none": _walk_literal,
    "name": _walk_name, "fn": _walk_fn, "let": _walk_let, "rec": _walk_rec, "set": _walk_set, "if": _walk_if,
    "do": _walk_do, "call": _walk_call, "keep": _walk_keep, "once": _walk_once, "take": _walk_take,
    "mark": _walk_mark, "wind": _walk_wind, "show": _walk_show, "ask": _walk_ask, "op": _walk_op,
}
