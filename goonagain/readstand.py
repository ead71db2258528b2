"""Reads the texts of standings back."""

from goonagain.errors import BadStanding
from goonagain.standing import Standing, row_of, with_row
from goonagain.writestand import Beginnings

MOST_FIGURES = 10
CONSTANTS = ("true", "false", "none")
NAMING_LETTERS = {"p": "pair", "f": "fun", "r": "rest"}


class Words:
    """The words of a line that are still to be read.

    What is read where other words are due is None, or has None in it; `good` tells whether that never happened.
    """

    def __init__(self, line):
        self.good = True
        # What the words of a row of frames told of its beginning.
        self.first = 0
        self.shared = 0
        # The next word is the last one.
        self._left = line.split(" ")[::-1]

    def all_good(self):
        """Whether all words were read, and were those due."""
        return self.good and not self._left

    def next_word(self):
        """The next word, or an empty one behind the last."""
        return self._left.pop() if self._left else ""

    def one_of(self, words):
        """The next word, one of those that are due."""
        word = self.next_word()
        return self._checked(word if word in words else None)

    def next_number(self):
        """The next number, from 0."""
        return self._checked(_number_of(self.next_word()))

    def next_birth(self):
        """The next birth, from 1."""
        return self._checked(_number_of(self.next_word()) or None)

    def next_births(self, many):
        """So many births."""
        if many is None or many > len(self._left):
            return self._checked(None)
        return tuple([self.next_birth() for _ in range(many)])

    def births_left(self):
        """The births up to the end of the line."""
        return self.next_births(len(self._left))

    def next_row(self):
        """The births of a row of frames that it does not share; the rest of its words tell its beginning."""
        self.first = self.next_number()
        self.shared = self.next_number()
        return self.next_births(self.next_number())

    def next_worth(self):
        """The next value."""
        return self._checked(_worth_of(self.next_word()))

    def worths_left(self):
        """The values up to the end of the line."""
        return tuple([self.next_worth() for _ in range(len(self._left))])

    def _checked(self, item):
        if item is None:
            self.good = False
        return item


def read_standing(text):
    """The standing that a text tells; raises BadStanding."""
    lines = text.split("\n")
    heads = lines[:4] + [""] * (4 - len(lines))
    if heads[0] != "standing":
        raise BadStanding(1, "head")
    words = _words_behind("counts", heads[1])
    calls, asked, shown, born = [words.next_number() for _ in range(4)]
    if not words.all_good():
        raise BadStanding(2, "counts")
    words = _words_behind("call", heads[2])
    callee, handed = words.next_worth(), words.worths_left()
    if not words.all_good():
        raise BadStanding(3, "call")
    words = _words_behind("frames", heads[3])
    frames = words.births_left()
    if not words.all_good():
        raise BadStanding(4, "frames")
    things = _read_things(lines[4:], frames)
    return Standing(callee, handed, frames, things, born, calls, asked, shown)


def _words_behind(word, line):
    """The words of a line behind its first one, which has to be a given one."""
    words = Words(line)
    words.one_of((word,))
    return words


def _read_things(lines, frames):
    """The things that lines tell, the first of them being the fifth line of a text."""
    things = []
    before = 0
    rows = {0: frames}
    beginnings = Beginnings()
    beginnings.shared_by(0, frames)
    for place, line in enumerate(lines, 5):
        words = Words(line)
        birth = words.next_birth()
        thing = _thing_of(words)
        if not words.all_good():
            raise BadStanding(place, "thing")
        if birth <= before:
            raise BadStanding(place, "order")
        before = birth
        listed = row_of(thing)
        if listed is not None:
            row = _whole_row(words, listed, rows)
            if row is None or beginnings.shared_by(birth, row) != (words.first, words.shared):
                raise BadStanding(place, "beginning")
            rows[birth] = row
            thing = with_row(thing, row)
        things.append((birth, thing))
    return tuple(things)


def _whole_row(words, listed, rows):
    """The row that begins as an earlier one and goes on with the births listed, or None if there is no such row."""
    if words.first not in rows or words.shared > len(rows[words.first]):
        return None
    return rows[words.first][:words.shared] + listed


def _thing_of(words):
    """The thing that words tell, with the listed births alone in the place of its frames."""
    word = words.one_of(("pair", "fun", "wait", "mark", "pass", "wind", "keep", "piece", "once", "way"))
    if word in ("pair", "wind"):
        return (word, words.next_worth(), words.next_worth())
    if word in ("fun", "wait"):
        return (word, words.next_number(), words.worths_left())
    if word == "pass":
        return (word, words.next_birth())
    if word in ("keep", "piece"):
        return (word, words.next_row())
    if word == "once":
        used = words.one_of(("0", "1"))
        return (word, words.next_row(), 1 if used == "1" else 0)
    if word == "way":
        return (word,) + _way_of(words)
    return (word,)


def _way_of(words):
    """The road and the end that words tell."""
    word = words.one_of(("to", "on", "off", "out"))
    ends = ("give", "call")
    road = (word,)
    if word == "to":
        number = words.next_number()
        road = (word, words.next_row(), number)
        ends = ("give",)
    elif word == "on":
        road = (word, words.next_row())
    else:
        ends = ("call",) if word == "off" else ("give",)
    if words.one_of(ends) == "call":
        return (road, ("call", words.next_worth(), words.worths_left()))
    return (road, ("give", words.next_worth()))


def _number_of(word):
    """The number from 0 that a word tells, or None."""
    if len(word) > MOST_FIGURES or not word.isascii() or not word.isdigit():
        return None
    return None if word.startswith("0") and word != "0" else int(word)


def _worth_of(word):
    """The value that a word tells, or None."""
    if word in CONSTANTS:
        return (word,)
    number = _number_of(word[1:])
    if word[:1] in NAMING_LETTERS:
        return (NAMING_LETTERS[word[0]], number) if number else None
    if word.startswith("-"):
        return -number if number else None
    return _number_of(word)
