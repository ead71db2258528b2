"""Makes other jump codes that fit a program, for the tests."""

from goonagain.jumpcode import JumpCode


def moved(row, place):
    if row[0] in ("jump", "unless"):
        return row[:-1] + (place[row[-1]],)
    return row


def with_gaps(code, chance):
    """The code with jumps over junk in front of some instructions."""
    rows, place = [], {}
    for address, row in enumerate(code.rows):
        place[address] = len(rows)
        if chance.random() < 0.3:
            junk = chance.choice(((), (("back", 9),), (("jump", 0), ("value", -1, 2))))
            rows.append(("over", len(rows) + len(junk) + 1))
            rows.extend(("junk", one) for one in junk)
        rows.append(row)
    done = [("jump", row[1]) if row[0] == "over" else row[1] if row[0] == "junk" else moved(row, place) for row in rows]
    return JumpCode(tuple(done), tuple(place[at] for at in code.starts), tuple(place[at] for at in code.returns))


def with_parts_mixed(code, chance):
    """The code with the parts of its bodies and places in another order."""
    begins = sorted(code.starts + code.returns) + [len(code.rows)]
    parts = list(zip(begins, begins[1:]))
    chance.shuffle(parts)
    rows, place = [], {}
    for begin, end in parts:
        for address in range(begin, end):
            place[address] = len(rows)
            rows.append(code.rows[address])
    return JumpCode(tuple(moved(row, place) for row in rows), tuple(place[at] for at in code.starts),
                    tuple(place[at] for at in code.returns))


def with_dead_cells(program, chance):
    """A code whose values lie in other cells than the compiled ones, with dead cells and copies of copies."""
    writer = Writer(chance)
    starts, returns = [], []
    for arity, held, rows in program.bodies:
        starts.append(len(writer.rows))
        writer.write(rows, arity + held, arity + held)
    for _, width, rows in program.places:
        returns.append(len(writer.rows))
        writer.write(rows, width + 1, width + 1)
    return JumpCode(tuple(writer.rows), tuple(starts), tuple(returns))


class Writer:
    """Writes rows; the env lies in the lowest cells, and behind it whatever chance puts there."""

    def __init__(self, chance):
        self.chance = chance
        self.rows = []
        self.cells = 0

    def put(self, word, *items):
        self.rows.append((word, self.cells) + items)
        self.cells += 1
        return self.cells - 1

    def noise(self):
        while self.chance.random() < 0.3:
            if self.cells and self.chance.random() < 0.5:
                self.put("copy", self.chance.randrange(self.cells))
            else:
                self.put("value", self.chance.choice((99, ("none",))))

    def copied(self, cell):
        while self.chance.random() < 0.3:
            cell = self.put("copy", cell)
        return cell

    def simple(self, simple):
        self.noise()
        if simple[0] == "slot":
            return self.copied(simple[1])
        if simple[0] in ("value", "ask"):
            return self.copied(self.put(*simple))
        if simple[0] == "fun":
            return self.copied(self.put("fun", simple[1], tuple(self.copied(slot) for slot in simple[2])))
        if simple[0] == "op":
            cells = tuple(self.simple(part) for part in simple[2])
            return self.copied(self.put("op", simple[1], cells))
        return self.copied(self.put("show", self.simple(simple[1])))

    def bind(self, cell, width):
        """Brings a value into the next cell of the env."""
        if cell != width:
            self.rows.append(("copy", width, cell))
        elif self.cells > width + 1 and self.chance.random() < 0.5:
            # Drops what lies above.
            self.rows.append(("copy", width, width))
        else:
            return
        self.cells = width + 1

    def write(self, rows, width, cells):
        self.cells = cells
        for row in rows[:-1]:
            self.noise()
            if row[0] == "let":
                self.bind(self.simple(row[1]), width)
            elif row[0] in ("keep", "once"):
                self.bind(self.put(row[0]), width)
            elif row[0] == "rec":
                self.rows.append(("rec", width, row[1]))
                self.cells = width + len(row[1])
            else:
                self.rows.append(row)
            width += len(row[1]) if row[0] == "rec" else 0 if row[0] == "mark" else 1
        final = rows[-1]
        if final[0] == "wait":
            self.noise()
            self.rows.append(("save", final[1]))
            self.write(final[2], width, self.cells)
        elif final[0] == "if":
            cell = self.simple(final[1])
            at, cells = len(self.rows), self.cells
            self.rows.append(None)
            self.write(final[2], width, cells)
            self.rows[at] = ("unless", cell, len(self.rows))
            self.write(final[3], width, cells)
        elif final[0] == "call":
            cells = [self.simple(one) for one in (final[1],) + final[2]]
            self.rows.append(("call", cells[0], tuple(cells[1:])))
        else:
            cells = tuple(self.simple(one) for one in final[1:])
            self.rows.append(("back" if final[0] == "give" else final[0],) + cells)
