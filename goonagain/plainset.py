"""Takes the set forms out of a tree."""

from goonagain.scopes import names_bound, set_names
from goonagain.trees import parts_of, with_parts


def without_set(tree):
    """A tree without set forms that shows the same: names that are set are held in pairs."""
    return _plain(tree, ())


def _plain(tree, held):
    """The tree without set; held are the names around it that are held in pairs."""
    word = tree[0]
    if word == "name":
        return ("op", "left", (tree,)) if tree[1] in held else tree
    if word == "set":
        return _filled(tree[1], _plain(tree[2], held))
    anew = _held_names(tree)
    parts = []
    for part, names in zip(parts_of(tree), names_bound(tree)):
        kept = tuple([name for name in held if name not in names])
        parts.append(_plain(part, kept + tuple([name for name in anew if name in names])))
    if not anew:
        return with_parts(tree, parts)
    if word == "rec":
        return _plain_rec(tree, parts, anew)
    parts[-1] = ("let", tuple([(name, _pair_of(("name", name))) for name in anew]), parts[-1])
    return with_parts(tree, parts)


def _held_names(tree):
    """The names that a form binds and that are set where they are bound, in their order."""
    bound = names_bound(tree)
    if not bound:
        return ()
    changed = {}
    for part, names in zip(parts_of(tree), bound):
        for name in set_names(part):
            if name in names:
                changed[name] = True
    return tuple([name for name in bound[-1] if name in changed])


def _plain_rec(tree, parts, anew):
    names = names_bound(tree)[-1]
    rows = tuple(zip(names, parts))
    fills = [_filled(name, side) for name, side in rows if name in anew]
    inner = ("do", tuple(fills) + (parts[-1],))
    others = tuple([row for row in rows if row[0] not in anew])
    if others:
        inner = ("rec", others, inner)
    return ("let", tuple([(name, _pair_of(("none",))) for name in anew]), inner)


def _pair_of(tree):
    return ("op", "pair", (tree, ("none",)))


def _filled(name, tree):
    return ("op", "left!", (("name", name), tree))
