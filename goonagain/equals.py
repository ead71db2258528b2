"""Turns by equals: a subtree is exchanged for another one that means the same."""

from goonagain.errors import BadTurnName
from goonagain.scopes import names_bound
from goonagain.trees import parts_of, tree_with

TURN_NAMES = (
    "fold", "choose", "drop", "lone", "onecall", "unlet", "known", "letname", "unkept", "gokept", "gotaken",
    "marktake", "markvalue",
)
LITERAL_WORDS = ("number", "true", "false", "none")
CALM_OPS = ("pair", "same?", "pair?", "none?", "rest?", "fun?")
NUMBER_OPS = ("+", "-", "*", "quot", "rem", "<", "=")
GREATEST = 1000000000


def is_literal(tree):
    """Whether a tree is a number, true, false or none."""
    return tree[0] in LITERAL_WORDS


def is_calm(tree):
    """Whether a tree surely gives a value and does nothing else that could be seen."""
    if tree[0] == "op":
        return tree[1] in CALM_OPS and all([is_calm(part) for part in tree[2]])
    return is_literal(tree) or tree[0] in ("name", "fn")


def uses_of(tree, name):
    """The uses of a name bound outside a tree as couples (path, how), in reading order."""
    if tree == ("name", name):
        return (((), "read"),)
    uses = [((), "set")] if tree[0] == "set" and tree[1] == name else []
    bound = names_bound(tree)
    for index, part in enumerate(parts_of(tree)):
        if name not in bound[index]:
            uses.extend([((index,) + path, how) for path, how in uses_of(part, name)])
    if tree[0] == "call" and tree[1] == ("name", name) and len(tree[2]) == 1:
        uses[0] = ((0,), "called")
    return tuple(uses)


def has_take(whole):
    """Whether a take form stands anywhere in a tree."""
    return whole[0] == "take" or any([has_take(part) for part in parts_of(whole)])


def winds_guarded(whole):
    """Whether the body of each wind in a tree calls, takes and winds within funs and marks alone."""
    if whole[0] == "wind" and not _is_guarded(whole[2]):
        return False
    return all([winds_guarded(part) for part in parts_of(whole)])


def _is_guarded(tree):
    if tree[0] in ("fn", "mark"):
        return True
    return tree[0] not in ("call", "take", "wind") and all([_is_guarded(part) for part in parts_of(tree)])


def turn_here(tree, name, whole):
    """The tree that a turn gives for a tree itself, or None if it does not apply."""
    if name not in TURN_NAMES:
        raise BadTurnName(name)
    action = TURNS[name]
    return action(tree, whole)


def _fold(tree, whole):
    if tree[0] != "op" or not all([is_literal(part) for part in tree[2]]):
        return None
    word, literals = tree[1], tree[2]
    if word in NUMBER_OPS:
        return _fold_numbers(word, literals[0], literals[1])
    if word == "same?":
        return _truth(literals[0] == literals[1])
    if word in ("pair?", "none?", "rest?", "fun?"):
        return _truth(word == "none?" and literals[0] == ("none",))
    return None


def _truth(holds):
    return ("true",) if holds else ("false",)


def _fold_numbers(word, one, other):
    if one[0] != "number" or other[0] != "number":
        return None
    first, second = one[1], other[1]
    if word == "<":
        return _truth(first < second)
    if word == "=":
        return _truth(first == second)
    if word in ("quot", "rem") and second == 0:
        return None
    if word == "+":
        answer = first + second
    elif word == "-":
        answer = first - second
    elif word == "*":
        answer = first * second
    elif word == "quot":
        answer = first // second
    else:
        answer = first - second * (first // second)
    return ("number", answer) if -GREATEST <= answer <= GREATEST else None


def _choose(tree, whole):
    if tree[0] != "if" or not is_literal(tree[1]):
        return None
    return tree[3] if tree[1] == ("false",) else tree[2]


def _drop(tree, whole):
    if tree[0] != "do":
        return None
    for index, item in enumerate(tree[1][:-1]):
        if is_calm(item):
            return ("do", tree[1][:index] + tree[1][index + 1:])
    return None


def _lone(tree, whole):
    return tree[1][0] if tree[0] == "do" and len(tree[1]) == 1 else None


def _onecall(tree, whole):
    if tree[0] != "call" or tree[1][0] != "fn" or len(tree[1][1]) != len(tree[2]):
        return None
    _, names, body = tree[1]
    return ("let", tuple(zip(names, tree[2])), body) if names else body


def _is_let_of_one(tree):
    return tree[0] == "let" and len(tree[1]) == 1


def _unlet(tree, whole):
    if not _is_let_of_one(tree):
        return None
    name, side = tree[1][0]
    return tree[2] if is_calm(side) and not uses_of(tree[2], name) else None


def _known(tree, whole):
    if not _is_let_of_one(tree):
        return None
    name, side = tree[1][0]
    uses = uses_of(tree[2], name)
    if not is_literal(side) or not uses or any([how == "set" for _, how in uses]):
        return None
    body = tree[2]
    for path, _ in uses:
        body = tree_with(body, path, side)
    return body


def _letname(tree, whole):
    if not _is_let_of_one(tree):
        return None
    name, side = tree[1][0]
    return side if tree[2] == ("name", name) else None


def _unkept(tree, whole):
    return tree[2] if tree[0] == "keep" and not uses_of(tree[2], tree[1]) else None


def _gone_on(tree, word):
    """The e of (keep k (k e)), or of the same with another first word, if k is not used in e; else None."""
    if tree[0] != word or tree[2][0] != "call" or tree[2][1] != ("name", tree[1]) or len(tree[2][2]) != 1:
        return None
    operand = tree[2][2][0]
    return None if uses_of(operand, tree[1]) else operand


def _gokept(tree, whole):
    # The whole tree is looked at last, as it may be large.
    other = _gone_on(tree, "keep")
    return None if other is None or has_take(whole) else other


def _gotaken(tree, whole):
    other = _gone_on(tree, "take")
    return other if other is not None and winds_guarded(whole) else None


def _marktake(tree, whole):
    if tree[0] != "mark" or tree[1][0] != "take":
        return None
    _, name, body = tree[1]
    if any([how != "called" for _, how in uses_of(body, name)]):
        return None
    return ("mark", ("let", ((name, ("fn", ("x",), ("name", "x"))),), body))


def _markvalue(tree, whole):
    return tree[1] if tree[0] == "mark" and is_calm(tree[1]) else None


# What performs each turn; None where it does not apply.
TURNS = {
    "fold": _fold, "choose": _choose, "drop": _drop, "lone": _lone, "onecall": _onecall, "unlet": _unlet,
    "known": _known, "letname": _letname, "unkept": _unkept, "gokept": _gokept, "gotaken": _gotaken,
    "marktake": _marktake, "markvalue": _markvalue,
}
