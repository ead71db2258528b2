"""Exchanges keep forms for once forms."""

from goonagain.errors import NoKeep
from goonagain.trees import tree_at, tree_paths, tree_with


def keep_paths(tree):
    """The paths of all keep forms of a tree, in reading order."""
    return tuple([path for path in tree_paths(tree) if tree_at(tree, path)[0] == "keep"])


def with_once(tree, paths):
    """The tree with once forms in the place of the keep forms at some paths; raises NoKeep."""
    other = tree
    for path in paths:
        found = tree_at(tree, path)
        if found is None or found[0] != "keep":
            raise NoKeep(tuple(path))
        # A form within may be exchanged already: the body is that of the other tree.
        _, name, body = tree_at(other, path)
        other = tree_with(other, path, ("once", name, body))
    return other
