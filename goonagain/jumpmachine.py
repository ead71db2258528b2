"""The jump machine: runs jump code over cells; its frames are records that never change and that rests share."""

from goonagain.errors import BadJumps
from goonagain.jumpcode import compiled_jumps
from goonagain.jumpjudge import jump_fault
from goonagain.machine import Machine
from goonagain.rests import Chain, MarkRecord, Record, births_of_chain, chains_of, common_winds, cut_with, deep_of
from goonagain.rests import thing_of_link

REST_WORDS = ("keep", "once", "piece")
FALSE_VALUE = ("false",)


class JumpMachine(Machine):
    """Runs jump code.

    Among the things, frames are records, a keep or once rest has its chain, and a piece its topmost record alone.
    """

    KIND = "jump"

    def __init__(self, program, asks=(), fuel=2000, *, code=None):
        super().__init__(program, asks, fuel)
        fault = None if code is None else jump_fault(program, code)
        if fault is not None:
            raise BadJumps(fault)
        self.code = compiled_jumps(program) if code is None else code
        self._rows = tuple(self.code.rows)
        self._starts = tuple(self.code.starts)
        self._returns = tuple(self.code.returns)
        self.made = 0
        self.chain = Chain(None, None)
        # The values of the running body.
        self._cells = []
        # What standings told of frames and rests, which never change.
        self._told = {}
        self._run(self._starts[0])
        self._gather_shown()

    def standing(self):
        """The present standing, or None at an outcome."""
        if self.outcome is not None:
            return None
        return self._standing_with(births_of_chain(self.chain))

    @staticmethod
    def restored(program, asks, standing, fuel=2000, *, code=None):
        """A machine that goes on from a standing."""
        # What the new machine did by itself up to its first call is all put aside.
        machine = JumpMachine(program, asks, fuel, code=code)
        machine._put_back(standing)
        machine._put_into_records(standing.frames)
        machine.made = 0
        return machine

    def _put_into_records(self, frames):
        """Links the frames of a standing, and those of its rests."""
        told = self._things
        births = [birth for birth, thing in told.items() if thing[0] in REST_WORDS and not _is_used(thing)]
        chains = chains_of([frames] + [told[birth][1] for birth in births], told)
        self.chain = chains[0]
        made = {birth: told[birth] for birth in told}
        for birth, chain in zip(births, chains[1:]):
            thing = told[birth]
            made[birth] = (thing[0], chain.top if thing[0] == "piece" else chain) + thing[2:]
        self._things = made

    def _told_thing(self, birth):
        """The thing of a birth as a standing tells it."""
        thing = self._things[birth]
        if isinstance(thing, tuple) and (thing[0] not in REST_WORDS or _is_used(thing)):
            return thing
        if birth not in self._told:
            self._told[birth] = self._worked_out(thing)
        return self._told[birth]

    def _worked_out(self, thing):
        """The thing that a record, or a rest with records, is."""
        if not isinstance(thing, tuple):
            return thing_of_link(thing)
        chain = Chain(thing[1], None) if thing[0] == "piece" else thing[1]
        return (thing[0], births_of_chain(chain)) + thing[2:]

    def _perform(self):
        thing = self._things[self._callee[1]]
        if thing[0] == "fun":
            self._cells = list(self._handed + thing[2])
            self._run(self._starts[thing[1]])
            return
        then = ("give", self._handed[0])
        if thing[0] == "piece":
            self._push_mark()
            worth = self._put_on(thing[1], 0, then)
        else:
            worth = self._go_to(thing[1], 0, then)
        if worth is not None:
            self._run(self._given(worth))

    def _run(self, address):
        """Runs instructions from an address on, up to the next call or the outcome."""
        while address is not None:
            row = self._rows[address]
            action = ACTIONS[row[0]]
            address = action(self, row, address + 1)

    def _write(self, cell, worths):
        """Drops the cells from one on, and writes values there."""
        self._cells[cell:] = worths

    def _worths_in(self, cells):
        """The values in cells."""
        return tuple([self._cells[cell] for cell in cells])

    def _make_record(self, word, detail):
        """Makes the record of a frame on what is present, and counts it."""
        birth = self._next_birth()
        made = Record(birth, word, detail, self.chain.top)
        self._things[birth] = made
        self.made += 1
        return made

    def _push(self, word, detail):
        """Makes a frame and pushes it."""
        self.chain = Chain(self._make_record(word, detail), self.chain.marked)

    def _push_mark(self):
        birth = self._next_birth()
        made = MarkRecord(birth, self.chain.top, self.chain.marked)
        self._things[birth] = made
        self.made += 1
        self.chain = Chain(None, made)

    def _given(self, worth):
        """Gives a value to the topmost frame: the address that goes on, or None at a stop."""
        while worth is not None:
            top, marked = self.chain.top, self.chain.marked
            if top is not None:
                self.chain = Chain(top.below, marked)
                if top.word == "wait":
                    place, env = top.detail
                    self._cells = list(env)
                    self._cells.append(worth)
                    return self._returns[place]
                worth = self._passed_on(top, worth)
            elif marked is not None:
                self.chain = Chain(marked.top, marked.outer)
            else:
                self.outcome = ("end",)
                return None
        return None

    def _passed_on(self, top, worth):
        """The value that a record, which is off the chain, gives on; None at a call or a fault."""
        if top.word == "pass":
            return self._passed_once(top.detail[0], worth)
        if top.word == "wind":
            return self._begin_deed(top.detail[1], self.chain, ("out",), ("give", worth))
        road, then = top.detail
        if road[0] == "to":
            return self._go_to(road[1], road[2], then)
        if road[0] == "on":
            return self._put_on(road[1], road[2], then)
        if road[0] == "off":
            return self._take_off(then)
        return self._arrive(self.chain, then)

    def _begin_deed(self, deed, chain, road, then):
        """Stands at the call of a deed, with a new way frame on a chain; gives no value."""
        self.chain = chain
        self._push("way", (road, then))
        self._stand_at(deed, ())
        return None

    def _arrive(self, chain, then):
        """What a road ends with: the value that is to be given now, or None at a call."""
        self.chain = chain
        if then[0] == "give":
            return then[1]
        self._stand_at(then[1], then[2])
        return None

    def _go_to(self, goal, number, then):
        """The next step of a road to a whole rest, as _arrive."""
        # Behind the enter deed of a wind of the goal, all winds up to it are shared.
        shared = number
        if number == 0:
            shared = common_winds(self.chain, goal)
            present = deep_of(self.chain.top) + deep_of(self.chain.marked)
            if shared < present:
                left = cut_with(self.chain, present)
                below = Chain(left.top.below, left.marked)
                return self._begin_deed(left.top.detail[1], below, ("to", goal, 0), then)
        if shared == deep_of(goal.top) + deep_of(goal.marked):
            return self._arrive(goal, then)
        entered = cut_with(goal, shared + 1)
        below = Chain(entered.top.below, entered.marked)
        return self._begin_deed(entered.top.detail[0], below, ("to", goal, shared + 1), then)

    def _put_on(self, top, number, then):
        """The next step of laying on a row of records, behind the number-th wind of it; as _arrive."""
        marked = self.chain.marked
        if number == deep_of(top):
            return self._arrive(Chain(top, marked), then)
        entered = cut_with(Chain(top, None), number + 1).top
        return self._begin_deed(entered.detail[0], Chain(entered.below, marked), ("on", top, number + 1), then)

    def _take_off(self, then):
        """The next step of a road "off", as _arrive."""
        top, marked = self.chain.top, self.chain.marked
        if deep_of(top) == 0:
            return self._arrive(Chain(None, marked), then)
        left = cut_with(Chain(top, None), deep_of(top)).top
        return self._begin_deed(left.detail[1], Chain(left.below, marked), ("off",), then)


def _is_used(thing):
    """Whether a rest is a used once rest, which holds no frames."""
    return thing[0] == "once" and thing[2] == 1


def _written(machine, cell, worth, behind):
    """Writes a value into a cell: the address behind, or None at a fault."""
    if worth is None:
        return None
    machine._write(cell, [worth])
    return behind


def _do_value(machine, row, behind):
    return _written(machine, row[1], row[2], behind)


def _do_copy(machine, row, behind):
    return _written(machine, row[1], machine._cells[row[2]], behind)


def _do_fun(machine, row, behind):
    made = machine._make_funs((row[2:],), tuple(machine._cells))
    return _written(machine, row[1], made[0], behind)


def _do_rec(machine, row, behind):
    machine._write(row[1], machine._make_funs(row[2], tuple(machine._cells[:row[1]])))
    return behind


def _do_op(machine, row, behind):
    return _written(machine, row[1], machine._operate(row[2], machine._worths_in(row[3])), behind)


def _do_show(machine, row, behind):
    return _written(machine, row[1], machine._show(machine._cells[row[2]]), behind)


def _do_ask(machine, row, behind):
    return _written(machine, row[1], machine._ask(), behind)


def _do_keep(machine, row, behind):
    return _written(machine, row[1], ("rest", machine._make(("keep", machine.chain))), behind)


def _do_once(machine, row, behind):
    rest = machine._make(("once", (), 0))
    machine._push("pass", (rest,))
    machine._things[rest] = ("once", machine.chain, 0)
    return _written(machine, row[1], ("rest", rest), behind)


def _do_mark(machine, row, behind):
    machine._push_mark()
    return behind


def _do_save(machine, row, behind):
    width = machine.program.places[row[1]][1]
    machine._push("wait", (row[1], tuple(machine._cells[:width])))
    return behind


def _do_unless(machine, row, behind):
    return row[2] if machine._cells[row[1]] == FALSE_VALUE else behind


def _do_jump(machine, row, behind):
    return row[1]


def _do_back(machine, row, behind):
    return machine._given(machine._cells[row[1]])


def _do_call(machine, row, behind):
    machine._stand_at(machine._cells[row[1]], machine._worths_in(row[2]))
    return None


def _do_take(machine, row, behind):
    callee = machine._cells[row[1]]
    piece = machine._make(("piece", machine.chain.top))
    return machine._take_off(("call", callee, (("rest", piece),)))


def _do_wind(machine, row, behind):
    enter, body, leave = machine._worths_in(row[1:])
    made = machine._make_record("wind", (enter, leave))
    return machine._begin_deed(enter, machine.chain, ("on", made, made.deep), ("call", body, ()))


# What performs each instruction and gives the address that goes on, or None at a stop.
ACTIONS = {
    "value": _do_value, "copy": _do_copy, "fun": _do_fun, "op": _do_op, "show": _do_show, "ask": _do_ask,
    "rec": _do_rec, "keep": _do_keep, "once": _do_once, "mark": _do_mark, "save": _do_save, "unless": _do_unless,
    "jump": _do_jump, "back": _do_back, "call": _do_call, "take": _do_take, "wind": _do_wind,
}
