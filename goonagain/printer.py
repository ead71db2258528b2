"""Writes a tree as the text of a program."""


def program_text(tree):
    """The text of a tree, on one line."""
    word = tree[0]
    if word == "number":
        return str(tree[1])
    if word == "name":
        return tree[1]
    if word in ("true", "false", "none"):
        return word
    return _in_brackets(_items_of(tree))


def _items_of(tree):
    """The texts that stand side by side in the bracket of a form."""
    word = tree[0]
    if word == "fn":
        return [word, _in_brackets(list(tree[1])), program_text(tree[2])]
    if word in ("let", "rec"):
        rows = [_in_brackets([name, program_text(side)]) for name, side in tree[1]]
        return [word, _in_brackets(rows), program_text(tree[2])]
    if word in ("set", "keep", "once", "take"):
        return [word, tree[1], program_text(tree[2])]
    if word == "do":
        return [word] + _texts_of(tree[1])
    if word == "call":
        return [program_text(tree[1])] + _texts_of(tree[2])
    if word == "op":
        return [tree[1]] + _texts_of(tree[2])
    return [word] + _texts_of(tree[1:])


def _texts_of(trees):
    return [program_text(tree) for tree in trees]


def _in_brackets(texts):
    return "(" + " ".join(texts) + ")"
