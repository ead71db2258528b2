"""Which form binds which names where."""

from goonagain.errors import BadName
from goonagain.trees import parts_of


def names_bound(tree):
    """The names that a form binds in each of its parts: a tuple of names for each part."""
    word = tree[0]
    if word == "fn":
        return (tuple(tree[1]),)
    if word in ("keep", "once", "take"):
        return ((tree[1],),)
    if word in ("let", "rec"):
        names = tuple([name for name, _ in tree[1]])
        sides = names if word == "rec" else ()
        return (sides,) * len(names) + (names,)
    return ((),) * len(parts_of(tree))


def check_names(tree):
    """Raises BadName for the first wrong name in reading order."""
    _check_within(tree, ())


def _check_within(tree, known):
    if tree[0] in ("name", "set") and tree[1] not in known:
        raise BadName("unknown", tree[1])
    bound = names_bound(tree)
    if bound:
        _check_twice(bound[-1])
    for part, names in zip(parts_of(tree), bound):
        _check_within(part, known + names)


def _check_twice(names):
    for index, name in enumerate(names):
        if name in names[:index]:
            raise BadName("twice", name)


def free_names(tree):
    """The names of a tree that are bound outside it, ascending."""
    found = {}
    _gather(tree, ("name", "set"), (), found)
    return tuple(sorted(found))


def set_names(tree):
    """The names bound outside a tree that a set form in it sets, ascending."""
    found = {}
    _gather(tree, ("set",), (), found)
    return tuple(sorted(found))


def _gather(tree, words, bound, found):
    """Puts into found the names of the forms with one of the words, but those bound within."""
    if tree[0] in words and tree[1] not in bound:
        found[tree[1]] = True
    for part, names in zip(parts_of(tree), names_bound(tree)):
        _gather(part, words, bound + names, found)
