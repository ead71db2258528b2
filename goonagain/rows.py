"""Pile code: how the values of a running body lie in slots, and which instructions are due for its rows."""


class Layout:
    """How an activation lies: its slots, those up to its last marker, the env's offsets, and the outer place or -1."""

    def __init__(self, size, kept, offsets, outer):
        self.size = size
        self.kept = kept
        self.offsets = offsets
        self.outer = outer

    def __eq__(self, other):
        return (
            isinstance(other, Layout) and self.size == other.size and self.kept == other.kept
            and self.offsets == other.offsets and self.outer == other.outer
        )


class Code:
    """Instructions, the address of each place's rows, and the address of each body's rows."""

    def __init__(self, rows, places, bodies):
        self.rows = rows
        self.places = places
        self.bodies = bodies

    def __eq__(self, other):
        return (
            isinstance(other, Code) and self.rows == other.rows and self.places == other.places
            and self.bodies == other.bodies
        )


def place_layouts(program):
    """By place, the layout of the activation just before the marker of the place is pushed."""
    found = {}
    for body in program.bodies:
        _gather_layouts(body[2], body_layout(body), found)
    # The row that waits at a place stands in a body or in the rows of a place with a smaller number.
    for place, (_, _, rows) in enumerate(program.places):
        _gather_layouts(rows, layout_returned(found[place]), found)
    return tuple([found[place] for place in range(len(program.places))])


def _gather_layouts(rows, layout, found):
    while True:
        for row in rows[:-1]:
            layout = layout_behind(layout, row)
        final = rows[-1]
        if final[0] == "if":
            _gather_layouts(final[2], layout, found)
            rows = final[3]
        elif final[0] == "wait":
            found[final[1]] = layout
            layout = layout_within(layout, final[1])
            rows = final[2]
        else:
            return


def body_layout(body):
    """The layout with which the rows of a body begin."""
    return _new_layout(body[0] + body[1])


def _new_layout(width):
    return Layout(width, 0, tuple(range(width)), -1)


def layout_returned(layout):
    """The layout with which the rows of a place begin: the value lies where the marker lay."""
    return _layout_with(layout, 1)


def _layout_with(layout, many):
    """The layout with so many values more on top."""
    size = layout.size + many
    return Layout(size, layout.kept, layout.offsets + tuple(range(layout.size, size)), layout.outer)


def layout_within(layout, place):
    """The layout with which the rows of a wait row begin, above the marker of its place."""
    size = layout.size + 1
    return Layout(size, size, layout.offsets, place)


def layout_behind(layout, row):
    """The layout behind a row that is not final."""
    word = row[0]
    if word == "mark":
        return _new_layout(len(layout.offsets))
    if word == "once":
        return _new_layout(len(layout.offsets) + 1)
    return _layout_with(layout, len(row[1]) if word == "rec" else 1)


def row_instructions(row, layout):
    """The instructions of a row but those of the rows in it; the last one of an "if" has no address yet."""
    word = row[0]
    kept = layout.kept
    if word in ("once", "mark"):
        return ((word, kept, layout.offsets),)
    if word == "wait":
        return ((word, row[1]),)
    if word == "rec":
        behind = layout_behind(layout, row)
        return ((word, tuple([(body, _offsets_of(slots, behind)) for body, slots in row[1]])),)
    if word == "call":
        return _instructions_of(row[1:2] + row[2], layout) + ((word, len(row[2]), kept),)
    if word == "if":
        return _instructions_of(row[1:2], layout) + (("unless", None),)
    simples = _instructions_of(row[1:], layout)
    return simples if word == "let" else simples + ((word, kept),)


def _offsets_of(slots, layout):
    return tuple([layout.offsets[slot] for slot in slots])


def _instructions_of(simples, layout):
    """The instructions of simples, one behind the other."""
    found = []
    for simple in simples:
        found.extend(_simple_instructions(simple, layout))
    return tuple(found)


def _simple_instructions(simple, layout):
    word = simple[0]
    if word == "slot":
        return ((word, layout.offsets[simple[1]]),)
    if word == "fun":
        return ((word, simple[1], _offsets_of(simple[2], layout)),)
    if word == "op":
        return _instructions_of(simple[2], layout) + ((word, simple[1], len(simple[2])),)
    if word == "show":
        return _instructions_of(simple[1:], layout) + ((word,),)
    return (simple,)


def is_address(address, many):
    """Whether any object is the address of one of so many instructions."""
    return is_whole(address) and 0 <= address < many


def is_whole(thing):
    """Whether any object is a whole number: True and False are none."""
    return isinstance(thing, int) and not isinstance(thing, bool)
