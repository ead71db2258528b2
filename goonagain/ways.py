"""Ways between rests: which deeds are called, and where a road arrives."""


def winds_of(frames, things):
    """The winds of frames as a tuple of (position, birth), bottom first."""
    return tuple([(position, birth) for position, birth in enumerate(frames) if things[birth][0] == "wind"])


def shared_winds(present, goal, things):
    """How many winds, from the bottom, two rows of frames share."""
    return _shared_many(winds_of(present, things), winds_of(goal, things))


def _shared_many(left, entered):
    many = 0
    for one, other in zip(left, entered):
        if one[1] != other[1]:
            break
        many += 1
    return many


def deeds_of_way(present, goal, things):
    """The deeds of the way from present to goal as a tuple of (word, position, birth)."""
    left = winds_of(present, things)
    entered = winds_of(goal, things)
    many = _shared_many(left, entered)
    deeds = [("leave", position, birth) for position, birth in left[many:][::-1]]
    return tuple(deeds + [("enter", position, birth) for position, birth in entered[many:]])


def mark_cut(frames, things):
    """How many frames lie up to and with the nearest mark, 0 if there is none."""
    for many in range(len(frames), 0, -1):
        if things[frames[many - 1]][0] == "mark":
            return many
    return 0


def lay_on(below, frames, things):
    """The first step of laying frames on those below."""
    below = tuple(below)
    frames = tuple(frames)
    winds = winds_of(frames, things)
    if not winds:
        return ("arrive", None, below + frames, None)
    position, birth = winds[0]
    return ("enter", things[birth][1], below + frames[:position], ("on", frames[position:]))


def next_step(below, road, things):
    """The next step of a road whose deed has given a value above the frames below."""
    below = tuple(below)
    word = road[0]
    if word == "to":
        return _step_to(below, tuple(road[1]), road[2], things)
    if word == "on":
        return lay_on(below + tuple(road[1][:1]), road[1][1:], things)
    if word == "off":
        return _step_off(below, things)
    return ("arrive", None, below, None)


def _step_to(below, frames, number, things):
    present = below
    if number > 0:
        present = frames[:winds_of(frames, things)[number - 1][0] + 1]
    deeds = deeds_of_way(present, frames, things)
    if not deeds:
        return ("arrive", None, frames, None)
    word, position, birth = deeds[0]
    if word == "leave":
        return (word, things[birth][2], present[:position], ("to", frames, 0))
    entered = len(winds_of(frames[:position], things)) + 1
    return (word, things[birth][1], frames[:position], ("to", frames, entered))


def _step_off(below, things):
    cut = mark_cut(below, things)
    winds = winds_of(below[cut:], things)
    if not winds:
        return ("arrive", None, below[:cut], None)
    position, birth = winds[-1]
    return ("leave", things[birth][2], below[:cut + position], ("off",))
