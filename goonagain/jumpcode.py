"""Jump code: instructions over cells, without a pile."""


class JumpCode:
    """Instructions, the address of each body, and the address of each place."""

    def __init__(self, rows, starts, returns):
        self.rows = rows
        self.starts = starts
        self.returns = returns

    def __eq__(self, other):
        return (
            isinstance(other, JumpCode) and self.rows == other.rows and self.starts == other.starts
            and self.returns == other.returns
        )


def compiled_jumps(program):
    """The jump code of a program: its bodies, then its places."""
    written = []
    starts = []
    for arity, held, rows in program.bodies:
        starts.append(len(written))
        _write_rows(rows, arity + held, written)
    returns = []
    for _, width, rows in program.places:
        returns.append(len(written))
        _write_rows(rows, width + 1, written)
    return JumpCode(tuple(written), tuple(starts), tuple(returns))


def _write_rows(rows, width, written):
    """Writes the instructions of rows that begin in an env of some width."""
    while True:
        for row in rows[:-1]:
            width = _write_bound(row, width, written)
        final = rows[-1]
        word = final[0]
        if word == "wait":
            written.append(("save", final[1]))
            rows = final[2]
        elif word == "if":
            cell = _fetch(final[1:2], width, written)[0]
            branch = len(written)
            written.append(("unless", cell, None))
            _write_rows(final[2], width, written)
            written[branch] = ("unless", cell, len(written))
            rows = final[3]
        else:
            _write_final(final, width, written)
            return


def _write_bound(row, width, written):
    """Writes the instructions of a row that is not final; returns the width behind it."""
    word = row[0]
    if word == "mark":
        written.append((word,))
        return width
    if word == "let":
        _put(row[1], width, written)
    elif word == "rec":
        written.append((word, width, row[1]))
        return width + len(row[1])
    else:
        written.append((word, width))
    return width + 1


def _write_final(row, width, written):
    word = row[0]
    if word == "call":
        cells = _fetch(row[1:2] + row[2], width, written)
        written.append((word, cells[0], cells[1:]))
    else:
        cells = _fetch(row[1:], width, written)
        written.append(("back" if word == "give" else word,) + cells)


def _fetch(simples, cell, written):
    """Puts the simples that are no slots into cells from one on; returns the cells of all of them."""
    cells = []
    for simple in simples:
        if simple[0] == "slot":
            cells.append(simple[1])
        else:
            _put(simple, cell, written)
            cells.append(cell)
            cell += 1
    return tuple(cells)


def _put(simple, cell, written):
    """Writes the instructions that put a simple into a cell."""
    word = simple[0]
    if word == "slot":
        written.append(("copy", cell, simple[1]))
    elif word == "op":
        cells = _fetch(simple[2], cell, written)
        written.append((word, cell, simple[1], cells))
    elif word == "show":
        cells = _fetch(simple[1:], cell, written)
        written.append((word, cell, cells[0]))
    else:
        written.append((word, cell) + simple[1:])
