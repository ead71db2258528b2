"""Catching: programs with throws that are caught, loops that are left, and winds."""

from goonagain.makers import AGAIN_TEXT, again_text, both_text, within_text
from goonagain.recipes import check_plan

ATTEMPT_TEXT = "(fn (f g) (let ((t (keep c (do (f c) none)))) (if (none? t) none (do (show t) (g)))))"


def catching_text(plan):
    """The text of a program that goes through a plan."""
    check_plan(plan, "catching")
    inner = _part_text(plan)
    return f"(rec ((again {AGAIN_TEXT}) (attempt {ATTEMPT_TEXT})) (attempt (fn (c) {inner}) (fn () none)))"


def catching_shown(plan):
    """The texts that the program of a plan shows."""
    check_plan(plan, "catching")
    shown = []
    thrown = _gone_through(plan, shown)
    if thrown is not None:
        shown.append(thrown[1])
    return tuple([str(number) for number in shown])


def _part_text(part):
    word = part[0]
    if word == "say":
        return f"(show {part[1]})"
    if word == "throw":
        return f"(c {part[1]})"
    if word == "both":
        return both_text(_part_text(part[1]), _part_text(part[2]))
    if word == "within":
        return within_text(part[1], _part_text(part[2]))
    if word == "catch":
        return f"(attempt (fn (c) {_part_text(part[1])}) (fn () {_part_text(part[2])}))"
    if word == "loop":
        return f"(once w {again_text(part[1], _part_text(part[2]))})"
    return "(w none)"


def _gone_through(part, shown):
    """Goes through a part; returns None, or the "throw" or "leave" part that ended it."""
    word = part[0]
    if word in ("throw", "leave"):
        return part
    if word == "say":
        shown.append(part[1])
        return None
    if word == "within":
        shown.append(part[1])
        ended = _gone_through(part[2], shown)
        shown.append(-part[1])
        return ended
    if word == "loop":
        return _looped(part[1], part[2], shown)
    ended = _gone_through(part[1], shown)
    if word == "both":
        return _gone_through(part[2], shown) if ended is None else ended
    if ended is None or ended[0] == "leave":
        return ended
    shown.append(ended[1])
    return _gone_through(part[2], shown)


def _looped(count, part, shown):
    """As _gone_through, for going through a part so many times."""
    for _ in range(count):
        ended = _gone_through(part, shown)
        if ended is not None:
            return None if ended[0] == "leave" else ended
    return None
