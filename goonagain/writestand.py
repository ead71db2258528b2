"""Writes standings as texts of lines."""

from goonagain.standing import row_of


class Beginnings:
    """The unlike beginnings of the rows of frames so far; each has a number."""

    def __init__(self):
        # The number of a beginning, by that of the beginning one frame shorter and its last frame.
        self._numbers = {}
        # The first row that begins so, by the number of the beginning; all begin with no frame, number 0.
        self._first_rows = [0]

    def shared_by(self, name, row):
        """FROM and SHARED of a row; from now on it is one of the rows that come earlier."""
        number = 0
        shared = 0
        for birth in row:
            if (number, birth) not in self._numbers:
                break
            number = self._numbers[(number, birth)]
            shared += 1
        first = self._first_rows[number]
        for birth in row[shared:]:
            self._numbers[(number, birth)] = len(self._first_rows)
            number = len(self._first_rows)
            self._first_rows.append(name)
        return (first, shared)


def standing_text(standing):
    """The text of a standing."""
    beginnings = Beginnings()
    beginnings.shared_by(0, standing.frames)
    lines = [
        "standing",
        _line("counts", (standing.calls, standing.asked, standing.shown, standing.born)),
        " ".join(["call"] + _words_of((standing.callee,) + tuple(standing.handed))),
        _line("frames", standing.frames),
    ]
    for birth, thing in standing.things:
        lines.append(" ".join([str(birth), thing[0]] + _items_of(birth, thing, beginnings)))
    return "\n".join(lines)


def _line(word, numbers):
    return " ".join([word] + [str(number) for number in numbers])


def _words_of(worths):
    """The words of values."""
    return [_word_of(worth) for worth in worths]


def _word_of(worth):
    if isinstance(worth, int):
        return str(worth)
    if len(worth) == 1:
        return worth[0]
    # Pairs, funs and rests begin with unlike letters.
    return worth[0][0] + str(worth[1])


def _items_of(birth, thing, beginnings):
    """The words of the items of a thing."""
    word = thing[0]
    if word in ("pair", "wind"):
        return _words_of(thing[1:])
    if word in ("fun", "wait"):
        return [str(thing[1])] + _words_of(thing[2])
    if word == "pass":
        return [str(thing[1])]
    row = row_of(thing)
    frames = [] if row is None else _words_of_row(birth, row, beginnings)
    if word == "once":
        return [str(thing[2])] + frames
    return _words_of_way(thing, frames) if word == "way" else frames


def _words_of_row(name, row, beginnings):
    """FROM, SHARED, MORE, and the births that are not shared."""
    first, shared = beginnings.shared_by(name, row)
    numbers = (first, shared, len(row) - shared) + tuple(row[shared:])
    return [str(number) for number in numbers]


def _words_of_way(thing, frames):
    _, road, then = thing
    words = [road[0]] + [str(number) for number in road[2:]] + frames + [then[0]]
    if then[0] == "give":
        return words + _words_of(then[1:])
    return words + _words_of(then[1:2] + tuple(then[2]))
