"""Slots and frames: a marker among slots is a frame."""

MARKER_WORDS = ("wait", "mark", "pass", "wind", "way")


def is_marker(slot):
    """Whether a slot is a marker, no value."""
    return isinstance(slot, tuple) and slot[0] in MARKER_WORDS


def births_in_slots(slots):
    """The births of the frames among slots, bottom first."""
    return tuple([slot[1] for slot in slots if is_marker(slot)])


def count_frames(slots):
    """How many frames lie among slots."""
    return len([slot for slot in slots if is_marker(slot)])


def winds_in_slots(slots):
    """The winds among slots as a list of (position, birth, enter, leave), bottom first."""
    return [
        (position,) + slot[1:] for position, slot in enumerate(slots) if is_marker(slot) and slot[0] == "wind"
    ]


def slots_to_mark(slots):
    """How many slots lie up to and with the nearest mark, 0 if there is none."""
    for many in range(len(slots), 0, -1):
        slot = slots[many - 1]
        if is_marker(slot) and slot[0] == "mark":
            return many
    return 0


def frames_of(layouts, slots, roads):
    """The frames among slots as a tuple of (birth, thing), bottom first."""
    return tuple([
        (slot[1], _thing_of(layouts, slots, position, roads))
        for position, slot in enumerate(slots) if is_marker(slot)
    ])


def _thing_of(layouts, slots, position, roads):
    """The thing of the frame whose marker lies at a position."""
    slot = slots[position]
    word = slot[0]
    if word == "wait":
        layout = layouts[slot[2]]
        first = position - layout.size
        return (word, slot[2], tuple([slots[first + offset] for offset in layout.offsets]))
    if word == "way":
        road, then = roads[slot[1]]
        return (word, _road_with(road, births_in_slots), then)
    return (word,) + slot[2:]


def _road_with(road, change):
    """A road whose frames, if it has any, are changed by a function."""
    if road[0] not in ("to", "on"):
        return road
    return (road[0], change(road[1])) + road[2:]


def slots_of(layouts, frames, things):
    """The slots of frames: the opposite of frames_of."""
    slots = []
    for birth in frames:
        thing = things[birth]
        word = thing[0]
        if word == "wait":
            outer = layouts[thing[1]].outer
            # What the outer place waits with lies below its marker already.
            known = len(layouts[outer].offsets) if outer >= 0 else 0
            slots.extend(thing[2][known:])
            slots.append((word, birth, thing[1]))
        elif word == "way":
            slots.append((word, birth))
        else:
            slots.append((word, birth) + thing[1:])
    return tuple(slots)


def road_in_slots(layouts, road, things):
    """A road with slots in the place of frames."""
    return _road_with(road, lambda frames: slots_of(layouts, frames, things))
