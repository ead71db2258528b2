"""Judges whether jump code fits a program: a walk names each value by where it comes from.

A name is ("literal", value), ("slot", number in the env at the beginning of the walk), or ("made", number of the step
on the walk, number among what the step makes). A step is (word, what it is told besides, names that it reads).
"""

# The first words of final rows whose instructions are called otherwise.
FINAL_WORDS = {"give": "back", "if": "unless"}
# The instructions that write a cell.
WRITING_WORDS = ("value", "copy", "fun", "op", "show", "ask", "rec", "keep", "once")


def jump_fault(program, code):
    """The first fault of a code as (word, number), or None if it fits."""
    if len(code.starts) != len(program.bodies):
        return ("starts", len(code.starts))
    if len(code.returns) != len(program.places):
        return ("returns", len(code.returns))
    rows = tuple(code.rows)
    widths = tuple([width for _, width, _ in program.places])
    for number, (arity, held, due_rows) in enumerate(program.bodies):
        if not 0 <= code.starts[number] < len(rows):
            return ("start", number)
        fault = _walk_fault(due_rows, arity + held, JumpWalk(rows, widths, code.starts[number]))
        if fault is not None:
            return fault
    for number, (_, width, due_rows) in enumerate(program.places):
        if not 0 <= code.returns[number] < len(rows):
            return ("return", number)
        fault = _walk_fault(due_rows, width + 1, JumpWalk(rows, widths, code.returns[number]))
        if fault is not None:
            return fault
    return None


def _walk_fault(due_rows, width, walk):
    """The first fault of a walk that begins with an env of some width."""
    env = tuple([("slot", slot) for slot in range(width)])
    walk.cells = list(env)
    return _rows_fault(due_rows, env, walk)


def _rows_fault(due_rows, env, walk):
    while True:
        for row in due_rows[:-1]:
            steps, names = _due_bound(row, env, walk.steps)
            fault = walk.steps_fault(steps)
            if fault is not None:
                return fault
            env = env + names
        final = due_rows[-1]
        fault = walk.steps_fault(_due_final(final, env, walk.steps))
        if fault is not None:
            return fault
        if final[0] == "if":
            other = walk.branched()
            fault = _rows_fault(final[2], env, walk)
            if fault is not None:
                return fault
            due_rows, walk = final[3], other
        elif final[0] == "wait":
            due_rows = final[2]
        else:
            return None


def _due_bound(row, env, done):
    """The steps of a row that is not final, behind so many others, and the names of the values it binds."""
    word = row[0]
    if word == "let":
        steps = []
        name = _due_simple(row[1], env, done, steps)
        return (steps, (name,))
    if word == "rec":
        made = tuple([("made", done, number) for number in range(len(row[1]))])
        inside = env + made
        caught = tuple([tuple([inside[slot] for slot in slots]) for _, slots in row[1]])
        return ([(word, tuple([body for body, _ in row[1]]), caught)], made)
    return ([(word, None, ())], () if word == "mark" else (("made", done, 0),))


def _due_final(row, env, done):
    """The steps of a final row but those of the rows in it."""
    word = row[0]
    if word == "wait":
        return [("save", row[1], env)]
    simples = row[1:2] if word == "if" else row[1:]
    if word == "call":
        simples = row[1:2] + row[2]
    steps = []
    names = tuple([_due_simple(simple, env, done, steps) for simple in simples])
    steps.append((FINAL_WORDS.get(word, word), None, names))
    return steps


def _due_simple(simple, env, done, steps):
    """Puts the steps of a simple behind those given; returns the name of its value."""
    word = simple[0]
    if word == "value":
        return ("literal", simple[1])
    if word == "slot":
        return env[simple[1]]
    if word == "fun":
        step = (word, simple[1], tuple([env[slot] for slot in simple[2]]))
    elif word == "op":
        step = (word, simple[1], tuple([_due_simple(part, env, done, steps) for part in simple[2]]))
    else:
        step = (word, None, tuple([_due_simple(part, env, done, steps) for part in simple[1:]]))
    steps.append(step)
    return ("made", done + len(steps) - 1, 0)


class JumpWalk:
    """A walk through jump code: where it is, the names in the cells, and how many steps lie behind it."""

    def __init__(self, rows, widths, address):
        self.rows = rows
        self.widths = widths
        self.address = address
        self.cells = []
        self.steps = 0
        # Where the last "unless" goes on if its cell holds false.
        self.otherwise = address

    def branched(self):
        """A walk like this one that goes on at the other branch."""
        other = JumpWalk(self.rows, self.widths, self.otherwise)
        other.cells = list(self.cells)
        other.steps = self.steps
        return other

    def steps_fault(self, due_steps):
        """Goes on behind the next steps, which have to be the due ones; the first fault or None."""
        for due in due_steps:
            fault = self._fault_ahead()
            if fault is None:
                fault = self._step_fault(due)
            if fault is not None:
                return fault
        return None

    def _fault_ahead(self):
        """Goes on to the next step; the first fault ahead of it or None."""
        while True:
            if self.address == len(self.rows):
                return ("end", self.address)
            row = self.rows[self.address]
            if row[0] == "jump":
                if not self._is_ahead(row[1]):
                    return ("jump", self.address)
                self.address = row[1]
            elif row[0] in ("value", "copy"):
                if not self._has_cells(row):
                    return ("cell", self.address)
                name = ("literal", row[2]) if row[0] == "value" else self.cells[row[2]]
                self._write(row[1], [name])
                self.address += 1
            else:
                return None

    def _step_fault(self, due):
        """Goes on behind a step; the first fault at it or None."""
        row = self.rows[self.address]
        word = row[0]
        if word == "save" and not 0 <= row[1] < len(self.widths):
            return ("step", self.address)
        if not self._has_cells(row):
            return ("cell", self.address)
        made = len(row[2]) if word == "rec" else 1
        names = [("made", self.steps, number) for number in range(made)]
        if word == "rec":
            # The captured cells are looked up behind the funs that are made: these are written already.
            self._write(row[1], names)
        if self._step_of(row) != due:
            return ("step", self.address)
        if word == "unless":
            if not self._is_ahead(row[2]):
                return ("jump", self.address)
            self.otherwise = row[2]
        elif word in WRITING_WORDS:
            self._write(row[1], names)
        self.steps += 1
        self.address += 1
        return None

    def _is_ahead(self, address):
        return self.address < address < len(self.rows)

    def _write(self, cell, names):
        """Drops the cells from one on and puts names there."""
        self.cells[cell:] = names

    def _has_cells(self, row):
        """Whether an instruction reads and writes only cells that are there."""
        there = len(self.cells)
        if row[0] in WRITING_WORDS and not 0 <= row[1] <= there:
            return False
        if row[0] == "rec":
            there = row[1] + len(row[2])
        return all([0 <= cell < there for cell in self._cells_read(row)])

    def _cells_read(self, row):
        word = row[0]
        if word == "copy" or word == "show":
            return row[2:]
        if word in ("fun", "op"):
            return row[3]
        if word == "rec":
            return [cell for _, cells in row[2] for cell in cells]
        if word == "save":
            return list(range(self.widths[row[1]]))
        if word == "call":
            return row[1:2] + tuple(row[2])
        if word == "unless":
            return row[1:2]
        return row[1:] if word in ("back", "take", "wind") else ()

    def _step_of(self, row):
        word = row[0]
        if word == "rec":
            caught = tuple([self._names_of(cells) for _, cells in row[2]])
            return (word, tuple([body for body, _ in row[2]]), caught)
        told = row[2] if word in ("fun", "op") else None
        return (word, row[1] if word == "save" else told, self._names_of(self._cells_read(row)))

    def _names_of(self, cells):
        return tuple([self.cells[cell] for cell in cells])
