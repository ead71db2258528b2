"""Standings that differ in the names of their births alone."""

from goonagain.standing import Standing, row_of, with_row


def closed_standing(standing):
    """A standing with the same things, whose births are 1, 2, 3 and so on."""
    ranks = {birth: number for number, (birth, _) in enumerate(standing.things, 1)}
    callee, *handed = _renamed_worths((standing.callee,) + tuple(standing.handed), ranks)
    things = tuple([(ranks[birth], _renamed_thing(thing, ranks)) for birth, thing in standing.things])
    frames = _renamed_births(standing.frames, ranks)
    return Standing(
        callee, tuple(handed), frames, things, len(things), standing.calls, standing.asked, standing.shown
    )


def renaming_between(one, other):
    """The pairs (birth in one, birth in other) of alike standings, ascending; None if they are not alike."""
    if closed_standing(one) != closed_standing(other):
        return None
    return tuple([(birth, twin) for (birth, _), (twin, _) in zip(one.things, other.things)])


def _renamed_births(births, ranks):
    return tuple([ranks[birth] for birth in births])


def _renamed_worths(worths, ranks):
    """Values with other births; what names no birth stays."""
    return tuple([
        (worth[0], ranks[worth[1]]) if isinstance(worth, tuple) and len(worth) == 2 else worth for worth in worths
    ])


def _renamed_thing(thing, ranks):
    word = thing[0]
    if word in ("pair", "wind"):
        return (word,) + _renamed_worths(thing[1:], ranks)
    if word in ("fun", "wait"):
        return (word, thing[1], _renamed_worths(thing[2], ranks))
    if word == "pass":
        return (word, ranks[thing[1]])
    row = row_of(thing)
    if row is not None:
        thing = with_row(thing, _renamed_births(row, ranks))
    return (word, thing[1], _renamed_then(thing[2], ranks)) if word == "way" else thing


def _renamed_then(then, ranks):
    if then[0] == "give":
        return ("give",) + _renamed_worths(then[1:], ranks)
    return ("call",) + _renamed_worths(then[1:2], ranks) + (_renamed_worths(then[2], ranks),)
