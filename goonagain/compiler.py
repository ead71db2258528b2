"""Compiles programs to pile code, writes such code as a text, and turns it about."""

from goonagain.rows import Code, body_layout, is_address, layout_behind, layout_returned, layout_within, place_layouts
from goonagain.rows import row_instructions

# Behind these instructions the next one does not run.
LAST_WORDS = ("give", "call", "take", "wind", "jump")
CONSTANTS = (("true",), ("false",), ("none",))


def compiled_code(program):
    """Code that fits a program: its bodies, then its places, without jumps."""
    written = []
    bodies = []
    for body in program.bodies:
        bodies.append(len(written))
        _write_rows(body[2], body_layout(body), written)
    places = []
    for layout, (_, _, rows) in zip(place_layouts(program), program.places):
        places.append(len(written))
        _write_rows(rows, layout_returned(layout), written)
    return Code(tuple(written), tuple(places), tuple(bodies))


def _write_rows(rows, layout, written):
    while True:
        for row in rows[:-1]:
            written.extend(row_instructions(row, layout))
            layout = layout_behind(layout, row)
        final = rows[-1]
        written.extend(row_instructions(final, layout))
        if final[0] == "if":
            branch = len(written) - 1
            _write_rows(final[2], layout, written)
            written[branch] = ("unless", len(written))
            rows = final[3]
        elif final[0] == "wait":
            layout = layout_within(layout, final[1])
            rows = final[2]
        else:
            return


def code_text(code):
    """The instructions of a code, a line each."""
    return "\n".join([f"{address}: {_row_text(row)}" for address, row in enumerate(code.rows)])


def _row_text(row):
    return " ".join([_item_text(item) for item in row])


def _item_text(item):
    if not isinstance(item, tuple):
        return str(item)
    if item in CONSTANTS:
        return item[0]
    return "(" + ",".join([_item_text(part) for part in item]) + ")"


def turned_code(code, cuts):
    """A code with the runs between the cuts in the opposite order, which fits whatever the code fits."""
    rows = tuple(code.rows)
    many = len(rows)
    begins = [0] + sorted(set([cut for cut in cuts if is_address(cut, many) and cut > 0]))
    ends = begins[1:] + [many]
    turned = []
    moved = {}
    for begin, end in list(zip(begins, ends))[::-1]:
        for address in range(begin, end):
            moved[address] = len(turned)
            turned.append(rows[address])
        if end < many and _goes_on(rows[end - 1]):
            turned.append(("jump", end))
    instructions = tuple([_moved_row(row, moved) for row in turned])
    return Code(instructions, _moved_all(code.places, moved), _moved_all(code.bodies, moved))


def _goes_on(row):
    return not isinstance(row, tuple) or row == () or row[0] not in LAST_WORDS


def _moved_row(row, moved):
    if isinstance(row, tuple) and len(row) == 2 and row[0] in ("jump", "unless"):
        return (row[0], _moved(row[1], moved))
    return row


def _moved_all(addresses, moved):
    return tuple([_moved(address, moved) for address in addresses])


def _moved(address, moved):
    return moved[address] if is_address(address, len(moved)) else address
