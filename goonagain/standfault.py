"""Judges whether a standing could be put back into a machine."""

from goonagain.rows import is_whole, place_layouts
from goonagain.standing import reached, row_of, worths_of

MOST_CALLS = 2000
GREATEST = 10**9
CONSTANTS = (("true",), ("false",), ("none",))
FRAME_WORDS = ("wait", "mark", "pass", "wind", "way")
# The words of the things that the kinds of values name.
NAMED_WORDS = {"pair": ("pair",), "fun": ("fun",), "rest": ("keep", "once", "piece")}
# How many items things have that have a fixed number of them, their word among these.
LENGTHS = {
    "pair": 3, "fun": 3, "keep": 2, "once": 3, "piece": 2, "wait": 3, "mark": 1, "pass": 2, "wind": 3, "way": 3,
}


def standing_fault(program, asks, standing):
    """The first fault of a standing as (word, birth), or None if it is well."""
    if not _has_good_counts(asks, standing):
        return ("counts", 0)
    fault = _birth_fault(standing)
    if fault is None:
        fault = _form_fault(program, standing.things)
    if fault is not None:
        return fault
    things = {birth: thing for birth, thing in standing.things}
    fault = _named_fault(standing, things)
    if fault is None:
        fault = _rows_fault(program, standing, things)
    return _reached_fault(standing, things) if fault is None else fault


def _has_good_counts(asks, standing):
    return (
        _is_up_to(standing.calls, MOST_CALLS) and _is_up_to(standing.asked, len(asks))
        and _is_up_to(standing.shown, GREATEST) and _is_up_to(standing.born, GREATEST)
    )


def _is_up_to(thing, most):
    """Whether any object is a whole number from 0 to a greatest one."""
    return is_whole(thing) and 0 <= thing <= most


def _birth_fault(standing):
    before = 0
    for birth, _ in standing.things:
        if not is_whole(birth) or not before < birth <= standing.born:
            return ("birth", birth)
        before = birth
    return None


def _form_fault(program, things):
    for birth, thing in things:
        if not _has_good_form(program, thing):
            return ("thing", birth)
    return None


def _has_good_form(program, thing):
    """Whether the items of a thing are as its word wants."""
    word = thing[0]
    if len(thing) != LENGTHS.get(word):
        return False
    if word in ("keep", "piece"):
        return isinstance(thing[1], tuple)
    if word == "once":
        return isinstance(thing[1], tuple) and _is_up_to(thing[2], 1)
    if word == "pass":
        return is_whole(thing[1])
    if word == "way":
        return _has_good_way(thing[1], thing[2])
    if word == "fun":
        return _fits_one_of([held for _, held, _ in program.bodies], thing) and thing[1] > 0
    if word == "wait":
        return _fits_one_of([width for _, width, _ in program.places], thing)
    return True


def _fits_one_of(widths, thing):
    """Whether a fun or wait has the number of a width, and a tuple of so many items."""
    _, number, worths = thing
    return _is_up_to(number, len(widths) - 1) and isinstance(worths, tuple) and len(worths) == widths[number]


def _has_good_way(road, then):
    """Whether a road and what happens at its end have the forms that go together."""
    if not isinstance(road, tuple) or not isinstance(then, tuple):
        return False
    gives = len(then) == 2 and then[0] == "give"
    calls = len(then) == 3 and then[0] == "call" and isinstance(then[2], tuple)
    if road == ("off",):
        return calls
    if road == ("out",):
        return gives
    if len(road) == 2 and road[0] == "on":
        return isinstance(road[1], tuple) and (gives or calls)
    if len(road) == 3 and road[0] == "to":
        return isinstance(road[1], tuple) and is_whole(road[2]) and road[2] >= 0 and gives
    return False


def _named_fault(standing, things):
    """The first fault of what the head and the things name."""
    if not _are_values((standing.callee,) + standing.handed, things):
        return ("value", 0)
    if not _are_frames(standing.frames, things):
        return ("frame", 0)
    for birth, thing in standing.things:
        word = _fault_within(birth, thing, things)
        if word is not None:
            return (word, birth)
    return None


def _fault_within(birth, thing, things):
    """The word of the first fault of what a thing names, or None."""
    row = row_of(thing)
    if row is not None:
        if not _are_frames(row, things):
            return "frame"
        words = [things[frame][0] for frame in row]
        if thing[0] == "once" and not _is_well_once(birth, thing, things):
            return "once"
        if thing[0] == "piece" and "mark" in words:
            return "piece"
        if thing[0] == "way" and not _is_well_road(birth, thing[1], words):
            return "road"
    if thing[0] == "pass" and (thing[1] not in things or things[thing[1]][0] != "once"):
        return "pass"
    return None if _are_values(worths_of(thing), things) else "value"


def _is_well_once(birth, thing, things):
    """Whether an unused once rest has its pass frame on top, and a used one no frames."""
    _, frames, used = thing
    if used == 1:
        return frames == ()
    return frames != () and things[frames[-1]] == ("pass", birth)


def _is_well_road(birth, road, words):
    """Whether a road whose frames are well has a number of its winds, or begins with a wind and has no mark."""
    for frame in road[1]:
        if frame >= birth:
            return False
    if road[0] == "to":
        return road[2] <= words.count("wind")
    return words[:1] == ["wind"] and "mark" not in words


def _are_values(worths, things):
    return all([_is_well_value(worth, things) for worth in worths])


def _is_well_value(worth, things):
    if is_whole(worth):
        return -GREATEST <= worth <= GREATEST
    if not isinstance(worth, tuple):
        return False
    if len(worth) != 2:
        return worth in CONSTANTS
    word, birth = worth
    if not isinstance(word, str) or not is_whole(birth) or birth not in things:
        return False
    return things[birth][0] in NAMED_WORDS.get(word, ())


def _are_frames(births, things):
    for birth in births:
        if not is_whole(birth) or birth not in things or things[birth][0] not in FRAME_WORDS:
            return False
    return True


def _rows_fault(program, standing, things):
    """The first fault of a row of frames, the standing's own row first."""
    outers = [layout.outer for layout in place_layouts(program)]
    rows = [standing.frames]
    rows.extend([row_of(thing) for _, thing in standing.things if row_of(thing) is not None])
    for row in rows:
        below = None
        for birth in row:
            word = _fault_on(birth, below, things, outers)
            if word is not None:
                return (word, birth)
            below = birth
    return None


def _fault_on(birth, below, things, outers):
    """The word of the fault of a frame directly on another one, or at the bottom if that is None; or None."""
    thing = things[birth]
    lower = ("mark",) if below is None else things[below]
    if thing[0] != "mark" and lower[0] != "mark":
        first = thing[1][1][0] if thing[0] == "way" and thing[1][0] == "on" else birth
        if first <= below:
            return "order"
    if thing[0] == "wait":
        outer = outers[thing[1]]
        if outer != -1 and (lower[:2] != ("wait", outer) or thing[2][:len(lower[2])] != lower[2]):
            return "chain"
    return None


def _reached_fault(standing, things):
    """The least birth of a thing that is not reached."""
    found = reached(standing.callee, standing.handed, standing.frames, things)
    known = {birth: True for birth, _ in found}
    for birth in things:
        if birth not in known:
            return ("reached", birth)
    return None
