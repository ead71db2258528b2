"""How many frames rests hold, by the rows of a standing and by what a pieces machine tells."""

from goonagain.standing import row_of


def reached_rows(standing):
    """The rows of frames of a standing: the present one, then those of its rests and roads by their births."""
    rows = [tuple(standing.frames)]
    for _, thing in standing.things:
        row = row_of(thing)
        if row is not None:
            rows.append(tuple(row))
    return tuple(rows)


def count_beginnings(standing):
    """How many unlike beginnings the rows of a standing have."""
    # Each beginning gets a number; it is known by the number of the beginning one frame shorter, and its last frame.
    numbers = {}
    for row in reached_rows(standing):
        shorter = 0
        for birth in row:
            beginning = (shorter, birth)
            if beginning not in numbers:
                numbers[beginning] = len(numbers) + 1
            shorter = numbers[beginning]
    return len(numbers)


def most_held(standing):
    """The greatest number of frames that a pieces machine holds at a standing."""
    return count_beginnings(standing) + 3 * (len(reached_rows(standing)) - 1)


def held_frames(holding):
    """How many frames lie in the blocks and in the open row."""
    return sum([len(frames) for _, frames in holding.blocks]) + len(holding.opened)
