"""The pile machine: all frames lie on one list of slots, which it changes in place."""

from goonagain.codejudge import judged_code
from goonagain.compiler import compiled_code
from goonagain.errors import BadCode
from goonagain.pile import MARKER_WORDS, births_in_slots, count_frames, frames_of, road_in_slots, slots_of
from goonagain.pile import slots_to_mark, winds_in_slots
from goonagain.roadmachine import RoadMachine
from goonagain.rows import place_layouts

REST_WORDS = ("keep", "once", "piece")
FALSE_VALUE = ("false",)


class PileMachine(RoadMachine):
    """Runs pile code.

    The pile is the list of present items, which are slots; while a body runs, the values that are worked out for its
    present row lie on it, too.
    """

    KIND = "pile"

    def __init__(self, program, asks=(), fuel=2000, *, code=None):
        super().__init__(program, asks, fuel)
        self._layouts = place_layouts(program)
        self.code = compiled_code(program) if code is None else code
        self._rows = self.code.rows
        if code is not None:
            fault, self._rows = judged_code(program, code)
            if fault is not None:
                raise BadCode(fault)
        self._places = tuple(self.code.places)
        self._bodies = tuple(self.code.bodies)
        self.depth = 0
        self.deepest = 0
        self._present = []
        self._roads = {}
        # Where the activation of the running body begins.
        self._base = 0
        # What standings told: the things of frames, and the frames of rests and roads; both never change.
        self._told_frames = {}
        self._told_rows = {}
        self._run(self._bodies[0])
        self._gather_shown()
        self._measure()

    def advance(self):
        """Performs the present call and runs up to the next call or the outcome."""
        super().advance()
        self._measure()

    def standing(self):
        """The present standing, or None at an outcome."""
        if self.outcome is not None:
            return None
        return self._standing_with(self._tell_slots(self._present))

    @staticmethod
    def restored(program, asks, standing, fuel=2000, *, code=None):
        """A machine that goes on from a standing."""
        # What the new machine did by itself up to its first call is all put aside.
        machine = PileMachine(program, asks, fuel, code=code)
        machine._put_back(standing)
        machine._put_on_pile(standing.frames)
        machine.deepest = 0
        machine._measure()
        return machine

    def pile_slots(self):
        """The pile as a tuple of slots."""
        return tuple(self._present) if self.outcome is None else ()

    def roads_kept(self):
        """What the way frames in the pile go on with: (road, then) by their births."""
        births = births_in_slots(self.pile_slots())
        return {birth: self._roads[birth] for birth in births if birth in self._roads}

    def _measure(self):
        self.depth = len(self._present) if self.outcome is None else 0
        self.deepest = max(self.deepest, self.depth)

    def _put_on_pile(self, frames):
        """Puts the frames of a standing, and those of its rests and roads, into slots."""
        told = self._things
        made = {}
        self._roads = {}
        for birth, thing in told.items():
            word = thing[0]
            if word in REST_WORDS:
                made[birth] = (word, slots_of(self._layouts, thing[1], told)) + thing[2:]
            elif word == "way":
                self._roads[birth] = (road_in_slots(self._layouts, thing[1], told), thing[2])
            elif word not in MARKER_WORDS:
                made[birth] = thing
        self._present = list(slots_of(self._layouts, frames, told))
        self._things = made

    def _tell_slots(self, slots):
        """The births of the frames among slots, whose things are told from now on."""
        frames = frames_of(self._layouts, slots, self._roads)
        for birth, thing in frames:
            self._told_frames[birth] = thing
        return tuple([birth for birth, _ in frames])

    def _tell_row(self, birth, slots):
        """The births of the frames of a rest or road with this birth; its slots are gone through once."""
        if birth not in self._told_rows:
            self._told_rows[birth] = self._tell_slots(slots)
        return self._told_rows[birth]

    def _told_thing(self, birth):
        """The thing of a birth as a standing tells it."""
        if birth in self._told_frames:
            if birth in self._roads and self._roads[birth][0][0] in ("to", "on"):
                self._tell_row(birth, self._roads[birth][0][1])
            return self._told_frames[birth]
        thing = self._things[birth]
        if thing[0] not in REST_WORDS or thing[1] == ():
            return thing
        return (thing[0], self._tell_row(birth, thing[1])) + thing[2:]

    def _perform(self):
        thing = self._things[self._callee[1]]
        if thing[0] == "fun":
            self._base = len(self._present)
            self._present.extend(self._handed + thing[2])
            self._run(self._bodies[thing[1]])
            return
        worth = self._go_on_with(thing)
        if worth is not None:
            self._run(self._given(worth))

    def _run(self, address):
        """Runs instructions from an address on, up to the next call or the outcome."""
        while address is not None:
            row = self._rows[address]
            action = ACTIONS[row[0]]
            address = action(self, row, address + 1)

    def _popped(self, many):
        """Takes the topmost values off the pile, as a tuple."""
        first = len(self._present) - many
        worths = tuple(self._present[first:])
        del self._present[first:]
        return worths

    def _cut_pile(self, kept):
        """Cuts the pile to the kept slots of the activation."""
        del self._present[self._base + kept:]

    def _begin_anew(self, kept, offsets, marker):
        """Pushes a marker, with a new activation above it that has a copy of the env."""
        env = [self._present[self._base + offset] for offset in offsets]
        self._cut_pile(kept)
        self._present.append(marker)
        self._base = len(self._present)
        self._present.extend(env)

    def _winds_in(self, row):
        return winds_in_slots(row)

    def _mark_end(self):
        return slots_to_mark(self._present)

    def _taken_over(self, row):
        """A copy of slots, whose frames are counted."""
        self.copied += count_frames(row)
        return tuple(row)

    def _push_way(self, road, then):
        birth = self._next_birth()
        self._roads[birth] = (road, then)
        self._present.append(("way", birth))

    def _push_mark(self):
        self._present.append(("mark", self._next_birth()))

    def _given(self, worth):
        """Gives a value to the topmost frame: the address that goes on, or None at a stop."""
        while self._present and worth is not None:
            marker = self._present.pop()
            word = marker[0]
            if word == "wait":
                self._base = len(self._present) - self._layouts[marker[2]].size
                self._present.append(worth)
                return self._places[marker[2]]
            items = self._roads[marker[1]] if word == "way" else marker[2:]
            worth = self._passed_on((word,) + items, worth)
        if worth is not None:
            self.outcome = ("end",)
        return None


def _push(machine, worth, behind):
    """Puts a value on the pile and goes on behind, or stops at a fault."""
    if worth is None:
        return None
    machine._present.append(worth)
    return behind


def _do_value(machine, row, behind):
    return _push(machine, row[1], behind)


def _do_slot(machine, row, behind):
    return _push(machine, machine._present[machine._base + row[1]], behind)


def _do_fun(machine, row, behind):
    return _do_rec(machine, (row[0], (row[1:],)), behind)


def _do_rec(machine, row, behind):
    machine._present.extend(machine._make_funs(row[1], tuple(machine._present[machine._base:])))
    return behind


def _do_op(machine, row, behind):
    return _push(machine, machine._operate(row[1], machine._popped(row[2])), behind)


def _do_show(machine, row, behind):
    return _push(machine, machine._show(machine._present.pop()), behind)


def _do_ask(machine, row, behind):
    return _push(machine, machine._ask(), behind)


def _do_unless(machine, row, behind):
    return row[1] if machine._present.pop() == FALSE_VALUE else behind


def _do_jump(machine, row, behind):
    return row[1]


def _do_keep(machine, row, behind):
    slots = machine._taken_over(machine._present[:machine._base + row[1]])
    return _push(machine, ("rest", machine._make(("keep", slots))), behind)


def _do_once(machine, row, behind):
    rest = machine._make(("once", (), 0))
    machine._begin_anew(row[1], row[2], ("pass", machine._next_birth(), rest))
    machine._things[rest] = ("once", machine._taken_over(machine._present[:machine._base]), 0)
    return _push(machine, ("rest", rest), behind)


def _do_mark(machine, row, behind):
    machine._begin_anew(row[1], row[2], ("mark", machine._next_birth()))
    return behind


def _do_wait(machine, row, behind):
    machine._present.append(("wait", machine._next_birth(), row[1]))
    return behind


def _do_give(machine, row, behind):
    worth = machine._present.pop()
    machine._cut_pile(row[1])
    return machine._given(worth)


def _do_call(machine, row, behind):
    worths = machine._popped(row[1] + 1)
    machine._cut_pile(row[2])
    machine._stand_at(worths[0], worths[1:])
    return None


def _do_take(machine, row, behind):
    callee = machine._present.pop()
    machine._cut_pile(row[1])
    slots = machine._taken_over(machine._present[slots_to_mark(machine._present):])
    piece = machine._make(("piece", slots))
    machine._take_off(("call", callee, (("rest", piece),)))
    return None


def _do_wind(machine, row, behind):
    enter, body, leave = machine._popped(3)
    machine._cut_pile(row[1])
    marker = ("wind", machine._next_birth(), enter, leave)
    machine._begin_deed(enter, ("on", (marker,)), ("call", body, ()))
    return None


# What performs each instruction and gives the address that goes on, or None at a stop.
ACTIONS = {
    "value": _do_value, "slot": _do_slot, "fun": _do_fun, "op": _do_op, "show": _do_show, "ask": _do_ask,
    "rec": _do_rec, "keep": _do_keep, "once": _do_once, "mark": _do_mark, "wait": _do_wait, "give": _do_give,
    "unless": _do_unless, "jump": _do_jump, "call": _do_call, "take": _do_take, "wind": _do_wind,
}
