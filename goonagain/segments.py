"""Rows of frames cut into blocks, and what a machine holds in blocks."""

CUT_WORDS = ("mark", "pass", "wind", "way")
MOST_IN_BLOCK = 4


def cut_blocks(frames, things):
    """How a row of frames is cut: each cut frame alone, the wait frames between them in fours from the bottom."""
    blocks = []
    waits = []
    for birth in frames:
        if things[birth][0] in CUT_WORDS:
            if waits:
                blocks.append(tuple(waits))
                waits = []
            blocks.append((birth,))
        else:
            waits.append(birth)
            if len(waits) == MOST_IN_BLOCK:
                blocks.append(tuple(waits))
                waits = []
    if waits:
        blocks.append(tuple(waits))
    return tuple(blocks)


class Holding:
    """What is held at a call: blocks by number, the present row, the open row, and the rows of rests and roads."""

    def __init__(self, blocks, present, opened, rows):
        self.blocks = blocks
        self.present = present
        self.opened = opened
        self.rows = rows

    def __eq__(self, other):
        return (
            isinstance(other, Holding) and self.blocks == other.blocks and self.present == other.present
            and self.opened == other.opened and self.rows == other.rows
        )
