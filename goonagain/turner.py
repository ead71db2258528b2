"""Turns of a whole tree: which ones apply, one of them, and all until none is left."""

from goonagain.equals import TURN_NAMES, has_take, turn_here, winds_guarded
from goonagain.errors import BadTurnName, NoTurn
from goonagain.trees import parts_of, tree_at, tree_paths, tree_with


class Turned:
    """A tree behind turns, and the row of the turns."""

    def __init__(self, tree, turns):
        self.tree = tree
        self.turns = turns

    def __eq__(self, other):
        return isinstance(other, Turned) and self.tree == other.tree and self.turns == other.turns


def list_turns(whole):
    """The turns that apply as couples (path, name), in reading order."""
    found = []
    for path in tree_paths(whole):
        tree = tree_at(whole, path)
        found.extend([(path, name) for name in TURN_NAMES if turn_here(tree, name, whole) is not None])
    return tuple(found)


def turned(whole, path, name):
    """The whole tree behind one turn; raises BadTurnName or NoTurn."""
    _check_name(name)
    tree = tree_at(whole, path)
    other = None if tree is None else turn_here(tree, name, whole)
    if other is None:
        raise NoTurn(tuple(path), name)
    return tree_with(whole, path, other)


def turn_all(whole, names=TURN_NAMES):
    """The tree behind all turns with one of the names, each time the first one that applies."""
    for name in names:
        _check_name(name)
    chosen = tuple([name for name in TURN_NAMES if name in names])
    turns = []
    begin = ()
    while True:
        found = _first_turn(whole, whole, begin, chosen)
        if found is None:
            return Turned(whole, tuple(turns))
        turns.append(found)
        path, name = found
        before = _outlook(whole)
        whole = tree_with(whole, path, turn_here(tree_at(whole, path), name, whole))
        # What stands ahead of the turned subtree, but for the forms around it, is as it was: nothing applies there,
        # unless a turn that looks at the whole tree does now.
        begin = path if _outlook(whole) == before else ()


def _check_name(name):
    if name not in TURN_NAMES:
        raise BadTurnName(name)


def _outlook(whole):
    """What the turns of a subtree ask of the whole tree."""
    return (has_take(whole), winds_guarded(whole))


def _first_turn(tree, whole, begin, names):
    """The first turn in a tree as (path, name), or None; parts ahead of the path begin are not looked at."""
    for name in names:
        if turn_here(tree, name, whole) is not None:
            return ((), name)
    first = begin[0] if begin else 0
    for index, part in enumerate(parts_of(tree)):
        if index >= first:
            found = _first_turn(part, whole, begin[1:] if index == first else (), names)
            if found is not None:
                return ((index,) + found[0], found[1])
    return None
