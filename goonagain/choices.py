"""Choices: programs that show all answers of a plan."""

from goonagain.recipes import check_plan

PIECES_TEXT = ("(mark (show ", "))")
WHOLE_TEXT = (
    "(let ((todo none)) (rec ((later (fn (k f) (set todo (pair (pair k f) todo))))"
    " (fail (fn () (let ((c (left todo))) (do (set todo (right todo)) ((left c) (right c)))))))"
    " (keep end (do (later end none) (show ",
    ") (fail)))))",
)


def choices_text(plan, *, whole=False):
    """The text of a program that shows all answers, by pieces or by whole rests."""
    check_plan(plan, "choices")
    around = WHOLE_TEXT if whole else PIECES_TEXT
    return around[0] + _part_text(plan, whole) + around[1]


def choices_shown(plan):
    """The texts of all answers, in order."""
    check_plan(plan, "choices")
    return tuple([str(answer) for answer in _answers(plan)])


def _part_text(part, whole):
    word = part[0]
    if word == "is":
        return str(part[1])
    if word == "sum":
        return f"(+ {_part_text(part[1], whole)} {_part_text(part[2], whole)})"
    if word == "under":
        otherwise = "(fail)" if whole else "(take k none)"
        return f"(let ((v {_part_text(part[1], whole)})) (if (< v {part[2]}) v {otherwise}))"
    funs = [f"(fn () {_part_text(one, whole)})" for one in part[1:]]
    if not whole:
        return "((take k (do " + " ".join([f"(k {fun})" for fun in funs]) + ")))"
    # What is put off last is gone on with first.
    later = [f"(later k {fun})" for fun in funs[:0:-1]]
    return "((keep k (do " + " ".join(later + funs[:1]) + ")))"


def _answers(part):
    """The answers of a part, in order."""
    word = part[0]
    if word == "is":
        return [part[1]]
    if word == "sum":
        others = _answers(part[2])
        return [first + second for first in _answers(part[1]) for second in others]
    if word == "under":
        return [answer for answer in _answers(part[1]) if answer < part[2]]
    return [answer for one in part[1:] for answer in _answers(one)]
