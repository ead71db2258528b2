"""The pieces machine: frames lie in blocks, which rests share."""

from goonagain.roadmachine import RoadMachine
from goonagain.rowmachine import RowMachine
from goonagain.segments import Holding, cut_blocks
from goonagain.standing import births_in, births_of, row_of, with_row

REST_WORDS = ("keep", "once", "piece")
HOLDING_ROADS = ("to", "on")


class Block:
    """One to four frames, bottom first, with a number of their own; a block never changes."""

    def __init__(self, number, frames):
        self.number = number
        self.frames = frames


class PiecesMachine(RowMachine, RoadMachine):
    """Runs a program with blocks: the present items are blocks, and above them lies the open row of wait frames.

    The things of rests, and the roads of way frames, have tuples of blocks.
    """

    KIND = "pieces"

    def __init__(self, program, asks=(), fuel=2000):
        super().__init__(program, asks, fuel)
        self._present = []
        self._open_row = []
        self._blocks_made = 0
        # By the number of a block, the births of the rests and way frames that were made with it.
        self._holders = {}
        # The unlike beginnings of their rows of blocks: of each the one a block shorter, and the frames of that block;
        # 0 is the one without blocks. Then the numbers of beginnings by these two, and those of whole rows by births.
        self._beginnings = [(0, ())]
        self._numbers = {}
        self._row_numbers = {}
        self._run(program.bodies[0][2], ())
        self._gather_shown()

    def standing(self):
        """The present standing, or None at an outcome."""
        if self.outcome is not None:
            return None
        return self._standing_with(tuple(self._present_births()))

    @staticmethod
    def restored(program, asks, standing, fuel=2000):
        """A machine that goes on from a standing."""
        # What the new machine did by itself up to its first call is all put aside.
        machine = PiecesMachine(program, asks, fuel)
        machine._put_back(standing)
        machine._put_into_blocks(standing.frames)
        return machine

    def holding(self):
        """What is held at the present call, or None at an outcome."""
        if self.outcome is not None:
            return None
        held = {block.number: block.frames for block in self._present}
        rows = []
        named = births_in((self._callee,)) + births_in(self._handed)
        for birth in sorted(self._found_from(named + self._present_births(), {})):
            blocks = self._blocks_held(birth)
            if blocks is not None:
                rows.append((birth, tuple([block.number for block in blocks])))
                for block in blocks:
                    held[block.number] = block.frames
        present = tuple([block.number for block in self._present])
        return Holding(tuple(sorted(held.items())), present, tuple(self._open_row), tuple(rows))

    def _present_births(self):
        return list(_frames_in(self._present)) + self._open_row

    def _blocks_held(self, birth):
        """The blocks of a rest or of the road of a way frame; None for another thing or road."""
        return row_of(self._things[birth])

    def _told_thing(self, birth):
        """The thing of a birth as a standing tells it."""
        thing = self._things[birth]
        blocks = self._blocks_held(birth)
        return thing if blocks is None else with_row(thing, _frames_in(blocks))

    def _put_into_blocks(self, frames):
        """Cuts the frames of a standing, and those of its rests and roads, into blocks."""
        told = self._things
        made = {}
        known = {}
        self._open_row = []
        self._holders = {}
        self._row_numbers = {}
        for birth, thing in told.items():
            row = row_of(thing)
            if row is None:
                made[birth] = thing
            else:
                blocks = self._known_blocks(row, told, known)
                made[birth] = with_row(thing, blocks)
                self._hold(birth, blocks)
        self._present = list(self._known_blocks(frames, told, known))
        self._things = made

    def _known_blocks(self, frames, things, known):
        """The blocks of frames; those with the same births are one, which known keeps."""
        blocks = []
        for births in cut_blocks(frames, things):
            if births not in known:
                known[births] = self._new_block(births)
            blocks.append(known[births])
        return tuple(blocks)

    def _new_block(self, births):
        self._blocks_made += 1
        return Block(self._blocks_made, births)

    def _hold(self, birth, blocks):
        """Notes that a rest or way frame was made with these blocks."""
        number = 0
        for block in blocks:
            self._holders.setdefault(block.number, []).append(birth)
            key = (number, block.number)
            if key not in self._numbers:
                self._numbers[key] = len(self._beginnings)
                self._beginnings.append((number, block.frames))
            number = self._numbers[key]
        self._row_numbers[birth] = number

    def _close(self):
        """Cuts the open row into blocks of the present frames."""
        for births in cut_blocks(self._open_row, self._things):
            self._present.append(self._new_block(births))
        self._open_row = []

    def _perform(self):
        thing = self._things[self._callee[1]]
        if thing[0] == "fun":
            self._run(self.program.bodies[thing[1]][2], self._handed + thing[2])
            return
        self._close()
        worth = self._go_on_with(thing)
        if worth is not None:
            rows, env = self._given(worth)
            self._run(rows, env)

    def _push(self, frame):
        """Makes a frame, pushes it, and returns its birth."""
        birth = self._make(frame)
        if frame[0] == "wait":
            self._open_row.append(birth)
        else:
            self._close()
            self._present.append(self._new_block((birth,)))
        return birth

    def _push_way(self, road, then):
        birth = self._push(("way", road, then))
        if road[0] in HOLDING_ROADS:
            self._hold(birth, road[1])

    def _push_mark(self):
        self._push(("mark",))

    def _make_rest(self, word, blocks):
        birth = self._make((word, blocks))
        self._hold(birth, blocks)
        return birth

    def _make_keep(self):
        """Makes a rest of the present frames; returns its birth."""
        self._close()
        return self._make_rest("keep", tuple(self._present))

    def _make_once(self):
        """Makes a once rest and its frame, which the rest itself has on top."""
        rest = self._make(("once", (), 0))
        self._push(("pass", rest))
        self._things[rest] = ("once", tuple(self._present), 0)
        self._hold(rest, self._present)
        return rest

    def _take_frames(self, callee):
        """Takes the frames above the nearest mark."""
        self._close()
        piece = self._make_rest("piece", tuple(self._present[self._mark_end():]))
        self._take_off(("call", callee, (("rest", piece),)))

    def _come_into(self, enter, body, leave):
        """Comes into a wind."""
        block = self._new_block((self._make(("wind", enter, leave)),))
        self._begin_deed(enter, ("on", (block,)), ("call", body, ()))

    def _top_thing(self, block):
        """The thing of the topmost frame of a block; a cut frame is the only one of its block."""
        return self._things[block.frames[-1]]

    def _winds_in(self, row):
        winds = []
        for position, block in enumerate(row):
            thing = self._top_thing(block)
            if thing[0] == "wind":
                winds.append((position, block.frames[0], thing[1], thing[2]))
        return winds

    def _mark_end(self):
        for many in range(len(self._present), 0, -1):
            if self._top_thing(self._present[many - 1])[0] == "mark":
                return many
        return 0

    def _taken_over(self, row):
        # The blocks themselves are put there: nothing is copied.
        return row

    def _given(self, worth):
        """Gives a value to the topmost frame: the rows and env that go on, or None and () at a stop."""
        while worth is not None:
            if self._open_row:
                _, place, env = self._things[self._open_row.pop()]
                return (self.program.places[place][2], env + (worth,))
            if not self._present:
                self.outcome = ("end",)
                return (None, ())
            frame = self._top_thing(self._present[-1])
            if frame[0] == "wait":
                self._open_top(worth)
            else:
                self._present.pop()
                worth = self._passed_on(frame, worth)
        return (None, ())

    def _open_top(self, worth):
        """Makes the frames of the topmost block the open row, as a value comes to them."""
        block = self._present.pop()
        if block in self._present or self._is_held(block, worth):
            self.copied += len(block.frames)
        self._open_row = list(block.frames)

    def _is_held(self, block, worth):
        """Whether what is reached from a value and the frames, those of a block on top, holds that block."""
        holders = {birth: True for birth in self._holders.get(block.number, []) if self._still_holds(birth)}
        self._holders[block.number] = list(holders)
        if not holders:
            return False
        roots = births_in((worth,)) + self._present_births() + list(block.frames)
        found = self._found_from(roots, holders)
        if found is None:
            return True
        # Whatever was not found now is never reached again, so that it need not be looked for anew.
        self._things = found
        return False

    def _found_from(self, roots, wanted):
        """The things that are reached from births, by birth; None as soon as one of the wanted ones is met."""
        found = {}
        passed = {}
        for root in roots:
            # What a root names is looked at wholly ahead of the next root: mostly a wanted one is near the first.
            waiting = [root]
            while waiting:
                birth = waiting.pop()
                if birth in wanted:
                    return None
                if birth not in found:
                    found[birth] = self._things[birth]
                    waiting.extend(self._births_named(birth, passed))
        return found

    def _births_named(self, birth, passed):
        """The births that a thing names, but for the frames of beginnings that were passed before."""
        thing = self._things[birth]
        blocks = self._blocks_held(birth)
        if blocks is None:
            return births_of(thing)
        # Besides its frames a way names what happens at its end.
        births = [] if thing[0] in REST_WORDS else births_of(("way", ("out",), thing[2]))
        number = self._row_numbers[birth] if blocks else 0
        while number > 0 and number not in passed:
            passed[number] = True
            number, frames = self._beginnings[number]
            births.extend(frames)
        return births

    def _still_holds(self, birth):
        """Whether a rest or way frame is there still, and no used once rest."""
        return birth in self._things and self._things[birth][1] != ()


def _frames_in(blocks):
    """The births of the frames in blocks, bottom first."""
    return tuple([birth for block in blocks for birth in block.frames])
