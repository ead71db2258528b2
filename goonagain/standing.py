"""All that a machine needs to go on, at a call."""


class Standing:
    """A standing; it keeps what it is given."""

    def __init__(self, callee, handed, frames, things, born, calls, asked, shown):
        self.callee = callee
        self.handed = handed
        self.frames = frames
        self.things = things
        self.born = born
        self.calls = calls
        self.asked = asked
        self.shown = shown

    def __eq__(self, other):
        return (
            isinstance(other, Standing) and self.callee == other.callee and self.handed == other.handed
            and self.frames == other.frames and self.things == other.things and self.born == other.born
            and self.calls == other.calls and self.asked == other.asked and self.shown == other.shown
        )


def reached(callee, handed, frames, things):
    """The things that are reached, as a tuple of (birth, thing) in ascending order of births."""
    return reached_by(callee, handed, frames, lambda birth: things[birth])


def reached_by(callee, handed, frames, thing_of):
    """As reached; thing_of gives the thing of a birth, and is asked for a rest or a way ahead of its frames."""
    found = {}
    waiting = births_in((callee,)) + births_in(handed) + list(frames)
    # A list of what is still to be looked at, as things may lie thousands deep.
    while waiting:
        birth = waiting.pop()
        if birth not in found:
            found[birth] = thing_of(birth)
            waiting.extend([named for named in births_of(found[birth]) if named not in found])
    return tuple([(birth, found[birth]) for birth in sorted(found)])


def row_of(thing):
    """The row of frames of a rest or of a way's road, or None for another thing or road."""
    if thing[0] in ("keep", "once", "piece"):
        return thing[1]
    if thing[0] == "way" and thing[1][0] in ("to", "on"):
        return thing[1][1]
    return None


def with_row(thing, row):
    """A rest, or a way whose road has frames, with another row in the place of its frames."""
    if thing[0] == "way":
        road = thing[1]
        return ("way", (road[0], row) + road[2:], thing[2])
    return (thing[0], row) + thing[2:]


def worths_of(thing):
    """The values that a thing names."""
    word = thing[0]
    if word in ("fun", "wait"):
        return thing[2]
    if word in ("pair", "wind"):
        return thing[1:]
    if word != "way":
        return ()
    then = thing[2]
    return then[1:] if then[0] == "give" else then[1:2] + then[2]


def births_in(worths):
    """The births that values name."""
    return [worth[1] for worth in worths if isinstance(worth, tuple) and len(worth) == 2]


def births_of(thing):
    """The births that a thing names."""
    if thing[0] == "pass":
        return [thing[1]]
    return list(row_of(thing) or ()) + births_in(worths_of(thing))
