"""All that a machine needs to go on, at a call."""


class Standing:
    """A standing; it keeps what it is given."""

    def __init__(self, callee, handed, frames, things, born, calls, asked, shown):
        self.callee = callee
        self.handed = handed
        self.frames = frames
        self.things = things
        self.born = born
        self.calls = calls
        self.asked = asked
        self.shown = shown

    def __eq__(self, other):
        return (
            isinstance(other, Standing) and self.callee == other.callee and self.handed == other.handed
            and self.frames == other.frames and self.things == other.things and self.born == other.born
            and self.calls == other.calls and self.asked == other.asked and self.shown == other.shown
        )


def reached(callee, handed, frames, things):
    """The things that are reached, as a tuple of (birth, thing) in ascending order of births."""
    return reached_by(callee, handed, frames, lambda birth: things[birth])


def reached_by(callee, handed, frames, thing_of):
    """As reached; thing_of gives the thing of a birth, and is asked for a rest or a way ahead of its frames."""
    found = {}
    waiting = births_in((callee,)) + births_in(handed) + list(frames)
    # A list of what is still to be looked at, as things may lie thousands deep.
    while waiting:
        birth = waiting.pop()
        if birth not in found:
            found[birth] = thing_of(birth)
            waiting.extend([named for named in births_of(found[birth]) if named not in found])
    return tuple([(birth, found[birth]) for birth in sorted(found)])


def births_in(worths):
    """The births that values name."""
    return [worth[1] for worth in worths if isinstance(worth, tuple) and len(worth) == 2]


def births_of(thing):
    """The births that a thing names."""
    word = thing[0]
    if word in ("pair", "wind"):
        return births_in(thing[1:])
    if word in ("fun", "wait"):
        return births_in(thing[2])
    if word in ("keep", "once", "piece"):
        return list(thing[1])
    if word == "pass":
        return [thing[1]]
    if word == "way":
        return _births_of_way(thing[1], thing[2])
    return []


def _births_of_way(road, then):
    frames = list(road[1]) if road[0] in ("to", "on") else []
    if then[0] == "give":
        return frames + births_in(then[1:])
    return frames + births_in(then[1:2]) + births_in(then[2])
