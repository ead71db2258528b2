"""Reads the text of a program into a tree."""

from goonagain.errors import BadText

MOST_SIGNS = 3000
MOST_DEEP = 30
MOST_ITEMS = 10
MOST_NAMES = 8
MOST_FUNS = 60
GREATEST = 1000000000
NAME_SIGNS = 12
LETTERS = "abcdefghijklmnopqrstuvwxyz"
FIGURES = "0123456789"

KEPT_WORDS = (
    "true", "false", "none", "fn", "let", "rec", "set", "if", "do", "keep", "once", "take", "mark", "wind",
    "show", "ask", "quot", "rem", "pair", "left", "right",
)
CONSTANTS = ("true", "false", "none")
FUN_WORDS = ("fn", "take", "wind")

# How many items may stand behind a first word: the least and the greatest count.
COUNTS = {
    "fn": (2, 10), "let": (2, 10), "rec": (2, 10), "set": (2, 2), "if": (3, 3), "do": (1, 10),
    "keep": (2, 2), "once": (2, 2), "take": (2, 2), "mark": (1, 1), "wind": (3, 3), "show": (1, 1), "ask": (0, 0),
    "+": (2, 2), "-": (2, 2), "*": (2, 2), "quot": (2, 2), "rem": (2, 2), "<": (2, 2), "=": (2, 2),
    "same?": (2, 2), "pair": (2, 2), "left!": (2, 2), "right!": (2, 2),
    "left": (1, 1), "right": (1, 1), "pair?": (1, 1), "none?": (1, 1), "rest?": (1, 1), "fun?": (1, 1),
}


def read_program(text):
    """The tree of a program's text; raises BadText at the first fault."""
    _check_signs(text)
    _check_brackets(text)
    nodes = _nodes_of(text)
    if not nodes:
        raise BadText(len(text), "end")
    if len(nodes) > MOST_ITEMS:
        raise BadText(nodes[MOST_ITEMS][0], "many")
    tree = _body_of(nodes)
    if _count_funs(nodes) > MOST_FUNS:
        raise BadText(len(text), "funs")
    return tree


def _check_signs(text):
    if len(text) > MOST_SIGNS:
        raise BadText(MOST_SIGNS, "long")
    for place, sign in enumerate(text):
        if sign != "\n" and not " " <= sign <= "~":
            raise BadText(place, "sign")


def _check_brackets(text):
    deep = 0
    for place, sign in enumerate(text):
        if sign == "(":
            if deep == MOST_DEEP:
                raise BadText(place, "deep")
            deep += 1
        elif sign == ")":
            if deep == 0:
                raise BadText(place, "close")
            deep -= 1
    if deep > 0:
        raise BadText(len(text), "end")


def _nodes_of(text):
    """The words and brackets of a text whose brackets match.

    A node is (place, word) or (place, list of nodes).
    """
    rows = [[]]
    for place, word in _pieces_of(text):
        if word == "(":
            inner = []
            rows[-1].append((place, inner))
            rows.append(inner)
        elif word == ")":
            rows.pop()
        else:
            rows[-1].append((place, word))
    return rows[0]


def _pieces_of(text):
    """The brackets and words of a text as pairs (place, text), in order."""
    found = []
    begin = 0
    # A blank more ends a word that the text ends with.
    for place, sign in enumerate(text + " "):
        if sign in " \n()":
            if begin < place:
                found.append((begin, text[begin:place]))
            if sign in "()":
                found.append((place, sign))
            begin = place + 1
    return found


def _is_word(node):
    return isinstance(node[1], str)


def _first_word(node):
    """The word that a bracket begins with, or None."""
    if _is_word(node) or not node[1] or not _is_word(node[1][0]):
        return None
    return node[1][0][1]


def _count_funs(nodes):
    """How many forms are fn, take or wind, in nodes without a fault."""
    many = 0
    for node in nodes:
        if not _is_word(node):
            if _first_word(node) in FUN_WORDS:
                many += 1
            many = many + _count_funs(node[1])
    return many


def is_number(word):
    """Whether a word is a number word."""
    figures = word[1:] if word.startswith("-") else word
    if figures == "" or len(figures) > len(str(GREATEST)):
        return False
    for sign in figures:
        if sign not in FIGURES:
            return False
    if figures.startswith("0"):
        return word == "0"
    return int(figures) <= GREATEST


def _is_name(word):
    if len(word) > NAME_SIGNS or word[0] not in LETTERS or word in KEPT_WORDS:
        return False
    for sign in word:
        if sign not in LETTERS and sign not in FIGURES and sign != "-":
            return False
    return True


def _form_of(node):
    if _is_word(node):
        return _form_of_word(node)
    place, nodes = node
    if not nodes:
        raise BadText(place, "form")
    if len(nodes) - 1 > MOST_ITEMS:
        raise BadText(place, "many")
    word = _first_word(node)
    if word not in COUNTS:
        return ("call", _form_of(nodes[0]), _forms_of(nodes[1:]))
    least, most = COUNTS[word]
    if not least <= len(nodes) - 1 <= most:
        raise BadText(place, "form")
    if is_op(word):
        return ("op", word, _forms_of(nodes[1:]))
    shape = SHAPES[word]
    return shape(word, nodes[1:])


def is_op(word):
    """Whether a word is that of an op."""
    return word in COUNTS and word not in SHAPES


def _form_of_word(node):
    place, word = node
    if is_number(word):
        return ("number", int(word))
    if _is_name(word):
        return ("name", word)
    if word in CONSTANTS:
        return (word,)
    raise BadText(place, "word")


def _forms_of(nodes):
    return tuple([_form_of(node) for node in nodes])


def _body_of(nodes):
    forms = _forms_of(nodes)
    return forms[0] if len(forms) == 1 else ("do", forms)


def _name_of(node):
    if not _is_word(node) or not _is_name(node[1]):
        raise BadText(node[0], "name")
    return node[1]


def _fn_shape(word, nodes):
    place, names = nodes[0]
    if _is_word(nodes[0]):
        raise BadText(place, "form")
    if len(names) > MOST_NAMES:
        raise BadText(place, "many")
    return (word, tuple([_name_of(name) for name in names]), _body_of(nodes[1:]))


def _rows_shape(word, nodes):
    place, rows = nodes[0]
    if _is_word(nodes[0]) or not rows:
        raise BadText(place, "form")
    if len(rows) > MOST_ITEMS:
        raise BadText(place, "many")
    return (word, tuple([_row_of(word, row) for row in rows]), _body_of(nodes[1:]))


def _row_of(word, row):
    if _is_word(row) or len(row[1]) != 2:
        raise BadText(row[0], "form")
    name = _name_of(row[1][0])
    side = row[1][1]
    if word == "rec" and _first_word(side) != "fn":
        raise BadText(side[0], "form")
    return (name, _form_of(side))


def _name_shape(word, nodes):
    return (word, _name_of(nodes[0]), _form_of(nodes[1]))


def _plain_shape(word, nodes):
    return (word,) + _forms_of(nodes)


def _do_shape(word, nodes):
    return (word, _forms_of(nodes))


# The first words that are no ops; what reads the items behind each.
SHAPES = {
    "fn": _fn_shape, "let": _rows_shape, "rec": _rows_shape, "set": _name_shape, "if": _plain_shape,
    "do": _do_shape, "keep": _name_shape, "once": _name_shape, "take": _name_shape, "mark": _plain_shape,
    "wind": _plain_shape, "show": _plain_shape, "ask": _plain_shape,
}
