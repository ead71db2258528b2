"""Judges whether pile code fits a program."""

from goonagain.rows import body_layout, is_address, layout_behind, layout_returned, layout_within, place_layouts
from goonagain.rows import row_instructions


def code_fault(program, code):
    """The first fault of a code as (word, number), or None if it fits."""
    return judged_code(program, code)[0]


def judged_code(program, code):
    """The first fault or None, and a dict of the instructions that the walks came to, by address."""
    met = {}
    if len(code.places) != len(program.places):
        return (("places", len(code.places)), met)
    if len(code.bodies) != len(program.bodies):
        return (("bodies", len(code.bodies)), met)
    rows = tuple(code.rows)
    for body, address in zip(program.bodies, code.bodies):
        fault = _walk_fault(body[2], body_layout(body), address, rows, met)
        if fault is not None:
            return (fault, met)
    for layout, place, address in zip(place_layouts(program), program.places, code.places):
        fault = _walk_fault(place[2], layout_returned(layout), address, rows, met)
        if fault is not None:
            return (fault, met)
    return (None, met)


def _walk_fault(due_rows, layout, address, rows, met):
    """The first fault of the walk that looks for the instructions of due rows from an address on."""
    while True:
        for due in due_rows[:-1]:
            fault, address = _stretch(row_instructions(due, layout), address, rows, met)
            if fault is not None:
                return fault
            layout = layout_behind(layout, due)
        final = due_rows[-1]
        fault, address = _stretch(row_instructions(final, layout), address, rows, met)
        if fault is not None:
            return fault
        if final[0] == "if":
            otherwise = rows[address - 1][1]
            fault = _walk_fault(final[2], layout, address, rows, met)
            if fault is not None:
                return fault
            due_rows, address = final[3], otherwise
        elif final[0] == "wait":
            layout = layout_within(layout, final[1])
            due_rows = final[2]
        else:
            return None


def _stretch(instructions, address, rows, met):
    """Looks for instructions from an address on: the first fault or None, and the address behind them."""
    for instruction in instructions:
        fault, at = _behind_jumps(address, rows, met)
        if fault is not None:
            return (fault, address)
        if not _is_due(rows[at], instruction):
            return (("row", at), address)
        # The due instruction is kept, not the one of the code: what equals it may be of another kind.
        met[at] = rows[at] if instruction[0] == "unless" else instruction
        address = at + 1
    return (None, address)


def _behind_jumps(address, rows, met):
    """The fault of a way or None, and the address of the instruction to which jumps lead from an address."""
    seen = set()
    at = address
    while True:
        if not is_address(at, len(rows)):
            return (("address", at), at)
        if at in seen:
            return (("ring", address), at)
        row = rows[at]
        if not _is_couple(row, "jump"):
            return (None, at)
        seen.add(at)
        met[at] = row
        at = row[1]


def _is_couple(row, word):
    return isinstance(row, tuple) and len(row) == 2 and row[0] == word


def _is_due(row, instruction):
    if instruction[0] == "unless":
        return _is_couple(row, "unless")
    return row == instruction
