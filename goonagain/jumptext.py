"""Listings of jump code: written and read back."""

from goonagain.errors import BadListing
from goonagain.jumpcode import JumpCode
from goonagain.reader import FIGURES, is_number, is_op

MOST_FIGURES = 5
CONSTANTS = ("true", "false", "none")

# What stands behind the first word of each instruction: a number, a value, the word of an op, cells up to the end of
# the line, or pairs of a body and its cells.
SHAPES_OF_LINES = {
    "value": ("number", "value"), "copy": ("number", "number"), "fun": ("number", "number", "cells"),
    "op": ("number", "op", "cells"), "show": ("number", "number"), "ask": ("number",), "rec": ("number", "pairs"),
    "keep": ("number",), "once": ("number",), "mark": (), "save": ("number",), "unless": ("number", "number"),
    "jump": ("number",), "back": ("number",), "call": ("number", "cells"), "take": ("number",),
    "wind": ("number", "number", "number"),
}


def jump_text(code):
    """The listing of a code."""
    lines = [["starts"] + _texts_of(code.starts), ["returns"] + _texts_of(code.returns)]
    lines.extend([_words_of(row) for row in code.rows])
    return "".join([" ".join(line) + "\n" for line in lines])


def _texts_of(numbers):
    return [str(number) for number in numbers]


def _words_of(row):
    """The words of the line of an instruction."""
    words = [row[0]]
    for shape, item in zip(SHAPES_OF_LINES[row[0]], row[1:]):
        if shape == "cells":
            words.extend(_texts_of(item))
        elif shape == "pairs":
            for body, cells in item:
                words.extend(_texts_of((body, len(cells)) + tuple(cells)))
        elif isinstance(item, tuple):
            words.append(item[0])
        else:
            words.append(str(item))
    return words


def read_jumps(text):
    """The code of a listing; raises BadListing."""
    # Behind the last line feed nothing stands; else the last line lacks its own.
    lines = text.split("\n")
    rows = []
    heads = []
    for number, line in enumerate(lines[:-1], 1):
        words = line.split(" ")
        if number <= 2:
            items = _numbers_of(words[1:]) if words[0] == ("starts", "returns")[number - 1] else None
            heads.append(items)
        else:
            items = _row_of(words)
            rows.append(items)
        if items is None:
            raise BadListing(number)
    if lines[-1] != "" or len(lines) < 3:
        raise BadListing(len(lines))
    return JumpCode(tuple(rows), heads[0], heads[1])


def _row_of(words):
    """The instruction of the words of a line, or None."""
    if words[0] not in SHAPES_OF_LINES:
        return None
    row = [words[0]]
    left = words[1:]
    for shape in SHAPES_OF_LINES[words[0]]:
        if shape == "cells" or shape == "pairs":
            item = _numbers_of(left) if shape == "cells" else _pairs_of(left)
            left = []
        elif left:
            item = _item_of(shape, left[0])
            left = left[1:]
        else:
            item = None
        if item is None:
            return None
        row.append(item)
    return tuple(row) if not left else None


def _item_of(shape, word):
    """The item that one word tells, or None."""
    if shape == "op":
        return word if is_op(word) else None
    if shape == "number":
        return _number_of(word)
    if word in CONSTANTS:
        return (word,)
    return int(word) if is_number(word) else None


def _number_of(word):
    """The number from 0 to 99999 that a word tells, or None."""
    if word == "" or len(word) > MOST_FIGURES or word.startswith("0") and word != "0":
        return None
    for sign in word:
        if sign not in FIGURES:
            return None
    return int(word)


def _numbers_of(words):
    """The numbers that words tell, a tuple, or None."""
    numbers = tuple([_number_of(word) for word in words])
    return None if None in numbers else numbers


def _pairs_of(words):
    """The pairs of a body and its cells that words tell, or None if they do not, or if there is none."""
    numbers = _numbers_of(words)
    if not numbers:
        return None
    pairs = []
    while numbers:
        if len(numbers) < 2 or len(numbers) - 2 < numbers[1]:
            return None
        end = 2 + numbers[1]
        pairs.append((numbers[0], numbers[2:end]))
        numbers = numbers[end:]
    return tuple(pairs)
