"""What is held and copied at each call of a run."""

from goonagain.heldframes import count_beginnings, held_frames, reached_rows


class Count:
    """What is counted at one call."""

    def __init__(self, calls, held, beginnings, rows, copied):
        self.calls = calls
        self.held = held
        self.beginnings = beginnings
        self.rows = rows
        self.copied = copied

    def __eq__(self, other):
        return (
            isinstance(other, Count) and self.calls == other.calls and self.held == other.held
            and self.beginnings == other.beginnings and self.rows == other.rows and self.copied == other.copied
        )


def count_calls(machine):
    """Runs a pieces machine to its outcome; returns a Count for each call at which it stands, the present one first."""
    counts = []
    while machine.outcome is None:
        standing = machine.standing()
        held = held_frames(machine.holding())
        rows = len(reached_rows(standing))
        counts.append(Count(machine.calls, held, count_beginnings(standing), rows, machine.copied))
        machine.advance()
    return tuple(counts)
