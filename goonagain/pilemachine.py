"""The pile machine: all frames lie on one list of slots, which it changes in place."""

from goonagain.codejudge import judged_code
from goonagain.compiler import compiled_code
from goonagain.errors import BadCode
from goonagain.machine import Machine
from goonagain.pile import MARKER_WORDS, births_in_slots, count_frames, frames_of, road_in_slots, slots_of
from goonagain.pile import slots_to_mark, wind_positions
from goonagain.rows import place_layouts

REST_WORDS = ("keep", "once", "piece")
FALSE_VALUE = ("false",)


class PileMachine(Machine):
    """Runs pile code.

    The pile is a list of slots; above it, while a body runs, lie the values of its row that are worked out.
    """

    KIND = "pile"

    def __init__(self, program, asks=(), fuel=2000, *, code=None):
        super().__init__(program, asks, fuel)
        self._layouts = place_layouts(program)
        self.code = compiled_code(program) if code is None else code
        self._rows = self.code.rows
        if code is not None:
            fault, self._rows = judged_code(program, code)
            if fault is not None:
                raise BadCode(fault)
        self._places = tuple(self.code.places)
        self._bodies = tuple(self.code.bodies)
        self.depth = 0
        self.deepest = 0
        self._pile = []
        self._roads = {}
        # Where the activation of the running body begins.
        self._base = 0
        # What standings told: the things of frames, and the frames of rests and roads; both never change.
        self._told_frames = {}
        self._told_rows = {}
        self._run(self._bodies[0])
        self._gather_shown()
        self._measure()

    def advance(self):
        """Performs the present call and runs up to the next call or the outcome."""
        super().advance()
        self._measure()

    def standing(self):
        """The present standing, or None at an outcome."""
        if self.outcome is not None:
            return None
        return self._standing_with(self._tell_slots(self._pile))

    @staticmethod
    def restored(program, asks, standing, fuel=2000, *, code=None):
        """A machine that goes on from a standing."""
        # What the new machine did by itself up to its first call is all put aside.
        machine = PileMachine(program, asks, fuel, code=code)
        machine._put_back(standing)
        machine._put_on_pile(standing.frames)
        machine.deepest = 0
        machine._measure()
        return machine

    def pile_slots(self):
        """The pile as a tuple of slots."""
        return tuple(self._pile) if self.outcome is None else ()

    def roads_kept(self):
        """What the way frames in the pile go on with: (road, then) by their births."""
        births = births_in_slots(self.pile_slots())
        return {birth: self._roads[birth] for birth in births if birth in self._roads}

    def _measure(self):
        self.depth = len(self._pile) if self.outcome is None else 0
        self.deepest = max(self.deepest, self.depth)

    def _put_on_pile(self, frames):
        """Puts the frames of a standing, and those of its rests and roads, into slots."""
        things = self._things
        self._pile = list(slots_of(self._layouts, frames, things))
        self._things = {}
        self._roads = {}
        for birth, thing in things.items():
            word = thing[0]
            if word in REST_WORDS:
                self._things[birth] = (word, slots_of(self._layouts, thing[1], things)) + thing[2:]
            elif word == "way":
                self._roads[birth] = (road_in_slots(self._layouts, thing[1], things), thing[2])
            elif word not in MARKER_WORDS:
                self._things[birth] = thing

    def _tell_slots(self, slots):
        """The births of the frames among slots, whose things are told from now on."""
        frames = frames_of(self._layouts, slots, self._roads)
        for birth, thing in frames:
            self._told_frames[birth] = thing
        return tuple([birth for birth, _ in frames])

    def _tell_row(self, birth, slots):
        """The births of the frames of a rest or road with this birth; its slots are gone through once."""
        if birth not in self._told_rows:
            self._told_rows[birth] = self._tell_slots(slots)
        return self._told_rows[birth]

    def _told_thing(self, birth):
        """The thing of a birth as a standing tells it."""
        if birth in self._told_frames:
            if birth in self._roads and self._roads[birth][0][0] in ("to", "on"):
                self._tell_row(birth, self._roads[birth][0][1])
            return self._told_frames[birth]
        thing = self._things[birth]
        if thing[0] not in REST_WORDS or thing[1] == ():
            return thing
        return (thing[0], self._tell_row(birth, thing[1])) + thing[2:]

    def _perform(self):
        birth = self._callee[1]
        thing = self._things[birth]
        if thing[0] == "fun":
            self._base = len(self._pile)
            self._pile.extend(self._handed + thing[2])
            self._run(self._bodies[thing[1]])
            return
        then = ("give", self._handed[0])
        if thing[0] == "piece":
            self._pile.append(("mark", self._next_birth()))
            worth = self._put_on(thing[1], then)
        else:
            worth = self._go_to(thing[1], 0, then)
        if worth is not None:
            self._run(self._given(worth))

    def _run(self, address):
        """Runs instructions from an address on, up to the next call or the outcome."""
        while address is not None:
            row = self._rows[address]
            action = ACTIONS[row[0]]
            address = action(self, row, address + 1)

    def _popped(self, many):
        """Takes the topmost values off the pile, as a tuple."""
        first = len(self._pile) - many
        worths = tuple(self._pile[first:])
        del self._pile[first:]
        return worths

    def _cut_pile(self, kept):
        """Cuts the pile to the kept slots of the activation."""
        del self._pile[self._base + kept:]

    def _begin_anew(self, kept, offsets, marker):
        """Pushes a marker, with a new activation above it that has a copy of the env."""
        env = [self._pile[self._base + offset] for offset in offsets]
        self._cut_pile(kept)
        self._pile.append(marker)
        self._base = len(self._pile)
        self._pile.extend(env)

    def _copied_slots(self, slots):
        """A copy of slots, whose frames are counted."""
        self.copied += count_frames(slots)
        return tuple(slots)

    def _deed(self, deed, road, then):
        """Stands at the call of a deed, with a new way frame above the pile."""
        birth = self._next_birth()
        self._roads[birth] = (road, then)
        self._pile.append(("way", birth))
        self._stand_at(deed, ())

    def _arrive(self, then):
        """The value that is to be given at the end of a road, or None at a call."""
        if then[0] == "give":
            return then[1]
        self._stand_at(then[1], then[2])
        return None

    def _go_to(self, slots, number, then):
        """The next step of a road to a whole rest; the value that is to be given, or None at a call."""
        goal = wind_positions(slots)
        present = self._pile if number == 0 else slots[:goal[number - 1] + 1]
        left = wind_positions(present)
        shared = 0
        while shared < min(len(left), len(goal)) and present[left[shared]][1] == slots[goal[shared]][1]:
            shared += 1
        if shared < len(left):
            # Behind an enter deed all winds are shared: what is left lies in the pile itself.
            leave = present[left[-1]][3]
            del self._pile[left[-1]:]
            self._deed(leave, ("to", slots, 0), then)
        elif shared < len(goal):
            self._pile[:] = self._copied_slots(slots[:goal[shared]])
            self._deed(slots[goal[shared]][2], ("to", slots, shared + 1), then)
        else:
            self._pile[:] = self._copied_slots(slots)
            return self._arrive(then)
        return None

    def _put_on(self, slots, then):
        """Puts slots on up to their first wind, the next step of a road "on"; as _go_to."""
        winds = wind_positions(slots)
        if not winds:
            self._pile.extend(self._copied_slots(slots))
            return self._arrive(then)
        self._pile.extend(self._copied_slots(slots[:winds[0]]))
        self._deed(slots[winds[0]][2], ("on", slots[winds[0]:]), then)
        return None

    def _take_off(self, then):
        """The next step of a road "off", as _go_to."""
        cut = slots_to_mark(self._pile)
        winds = wind_positions(self._pile)
        if winds and winds[-1] >= cut:
            leave = self._pile[winds[-1]][3]
            del self._pile[winds[-1]:]
            self._deed(leave, ("off",), then)
            return None
        del self._pile[cut:]
        return self._arrive(then)

    def _go_along(self, road, then):
        """The next step of the road of a way frame whose deed has given a value, as _go_to."""
        word = road[0]
        if word == "to":
            return self._go_to(road[1], road[2], then)
        if word == "on":
            self._pile.append(road[1][0])
            return self._put_on(road[1][1:], then)
        if word == "off":
            return self._take_off(then)
        return self._arrive(then)

    def _given(self, worth):
        """Gives a value to the topmost frame: the address that goes on, or None at a stop."""
        while self._pile and worth is not None:
            marker = self._pile.pop()
            if marker[0] == "wait":
                self._base = len(self._pile) - self._layouts[marker[2]].size
                self._pile.append(worth)
                return self._places[marker[2]]
            worth = self._passed_on(marker, worth)
        if worth is not None:
            self.outcome = ("end",)
        return None

    def _passed_on(self, marker, worth):
        """The value that a frame without rows gives on, or None at a call or a fault."""
        word = marker[0]
        if word == "mark":
            return worth
        if word == "pass":
            return self._passed_once(marker[2], worth)
        if word == "wind":
            self._deed(marker[3], ("out",), ("give", worth))
            return None
        road, then = self._roads[marker[1]]
        return self._go_along(road, then)


def _push(machine, worth, behind):
    """Puts a value on the pile and goes on behind, or stops at a fault."""
    if worth is None:
        return None
    machine._pile.append(worth)
    return behind


def _do_value(machine, row, behind):
    return _push(machine, row[1], behind)


def _do_slot(machine, row, behind):
    return _push(machine, machine._pile[machine._base + row[1]], behind)


def _do_fun(machine, row, behind):
    return _do_rec(machine, (row[0], (row[1:],)), behind)


def _do_rec(machine, row, behind):
    machine._pile.extend(machine._make_funs(row[1], tuple(machine._pile[machine._base:])))
    return behind


def _do_op(machine, row, behind):
    return _push(machine, machine._operate(row[1], machine._popped(row[2])), behind)


def _do_show(machine, row, behind):
    return _push(machine, machine._show(machine._pile.pop()), behind)


def _do_ask(machine, row, behind):
    return _push(machine, machine._ask(), behind)


def _do_unless(machine, row, behind):
    return row[1] if machine._pile.pop() == FALSE_VALUE else behind


def _do_jump(machine, row, behind):
    return row[1]


def _do_keep(machine, row, behind):
    slots = machine._copied_slots(machine._pile[:machine._base + row[1]])
    return _push(machine, ("rest", machine._make(("keep", slots))), behind)


def _do_once(machine, row, behind):
    rest = machine._make(("once", (), 0))
    machine._begin_anew(row[1], row[2], ("pass", machine._next_birth(), rest))
    machine._things[rest] = ("once", machine._copied_slots(machine._pile[:machine._base]), 0)
    return _push(machine, ("rest", rest), behind)


def _do_mark(machine, row, behind):
    machine._begin_anew(row[1], row[2], ("mark", machine._next_birth()))
    return behind


def _do_wait(machine, row, behind):
    machine._pile.append(("wait", machine._next_birth(), row[1]))
    return behind


def _do_give(machine, row, behind):
    worth = machine._pile.pop()
    machine._cut_pile(row[1])
    return machine._given(worth)


def _do_call(machine, row, behind):
    worths = machine._popped(row[1] + 1)
    machine._cut_pile(row[2])
    machine._stand_at(worths[0], worths[1:])
    return None


def _do_take(machine, row, behind):
    callee = machine._pile.pop()
    machine._cut_pile(row[1])
    slots = machine._copied_slots(machine._pile[slots_to_mark(machine._pile):])
    piece = machine._make(("piece", slots))
    machine._take_off(("call", callee, (("rest", piece),)))
    return None


def _do_wind(machine, row, behind):
    enter, body, leave = machine._popped(3)
    machine._cut_pile(row[1])
    marker = ("wind", machine._next_birth(), enter, leave)
    machine._deed(enter, ("on", (marker,)), ("call", body, ()))
    return None


# What performs each instruction and gives the address that goes on, or None at a stop.
ACTIONS = {
    "value": _do_value, "slot": _do_slot, "fun": _do_fun, "op": _do_op, "show": _do_show, "ask": _do_ask,
    "rec": _do_rec, "keep": _do_keep, "once": _do_once, "mark": _do_mark, "wait": _do_wait, "give": _do_give,
    "unless": _do_unless, "jump": _do_jump, "call": _do_call, "take": _do_take, "wind": _do_wind,
}
