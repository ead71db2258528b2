"""The parts of a tree, and paths that lead to them."""


def parts_of(tree):
    """The direct subtrees of a tree, in reading order."""
    word = tree[0]
    if word in ("fn", "set", "keep", "once", "take"):
        return (tree[2],)
    if word in ("let", "rec"):
        return tuple([side for _, side in tree[1]]) + (tree[2],)
    if word == "do":
        return tuple(tree[1])
    if word == "call":
        return (tree[1],) + tuple(tree[2])
    if word == "op":
        return tuple(tree[2])
    if word in ("if", "mark", "wind", "show"):
        return tuple(tree[1:])
    return ()


def with_parts(tree, parts):
    """The tree with other parts, as many as it has."""
    word = tree[0]
    parts = tuple(parts)
    if word in ("fn", "set", "keep", "once", "take"):
        return (word, tree[1], parts[0])
    if word in ("let", "rec"):
        rows = tuple([(row[0], side) for row, side in zip(tree[1], parts)])
        return (word, rows, parts[-1])
    if word == "do":
        return (word, parts)
    if word == "call":
        return (word, parts[0], parts[1:])
    if word == "op":
        return (word, tree[1], parts)
    if word in ("if", "mark", "wind", "show"):
        return (word,) + parts
    return tree


def tree_at(tree, path):
    """The subtree at a path, or None if the path leads nowhere."""
    for index in path:
        parts = parts_of(tree)
        if not 0 <= index < len(parts):
            return None
        tree = parts[index]
    return tree


def tree_with(tree, path, other):
    """The tree with another tree at a path that it has."""
    path = tuple(path)
    if path == ():
        return other
    parts = list(parts_of(tree))
    parts[path[0]] = tree_with(parts[path[0]], path[1:], other)
    return with_parts(tree, parts)


def tree_paths(tree):
    """The paths of all subtrees in reading order, a tree ahead of its parts."""
    found = [()]
    for index, part in enumerate(parts_of(tree)):
        found.extend([(index,) + path for path in tree_paths(part)])
    return tuple(found)


def tree_size(tree):
    """How many subtrees a tree has, itself among them."""
    return 1 + sum([tree_size(part) for part in parts_of(tree)])
