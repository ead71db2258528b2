"""Chains: frames as records that never change and know the record beneath them."""


class Record:
    """A frame but a mark, and the record beneath it, or None directly above a mark or at the bottom."""

    def __init__(self, birth, word, detail, below):
        self.birth = birth
        self.word = word
        self.detail = detail
        self.below = below
        # How many winds lie up to the nearest mark, this record among them.
        self.deep = deep_of(below) + (1 if word == "wind" else 0)
        # The innermost wind beneath this record, up to the nearest mark.
        self.wound = below if below is None or below.word == "wind" else below.wound


class MarkRecord:
    """A mark: the record beneath it, or None, and the next mark's record, or None."""

    def __init__(self, birth, top, outer):
        self.birth = birth
        self.top = top
        self.outer = outer
        # How many winds lie beneath the mark down to the bottom.
        self.deep = deep_of(top) + deep_of(outer)


class Chain:
    """A row of frames: its record above the nearest mark, or None, and that mark's record, or None."""

    def __init__(self, top, marked):
        self.top = top
        self.marked = marked


def deep_of(link):
    """How many winds a record or mark record, or None, tells."""
    return 0 if link is None else link.deep


def chain_frames(chain):
    """The frames of a chain as a tuple of (birth, thing), bottom first."""
    return tuple([(link.birth, thing_of_link(link)) for link in links_of(chain)])


def births_of_chain(chain):
    """The births of the frames of a chain, bottom first."""
    return tuple([link.birth for link in links_of(chain)])


def links_of(chain):
    """The records and mark records of a chain, bottom first."""
    links = []
    top, marked = chain.top, chain.marked
    while top is not None or marked is not None:
        if top is not None:
            links.append(top)
            top = top.below
        else:
            links.append(marked)
            top, marked = marked.top, marked.outer
    return links[::-1]


def thing_of_link(link):
    """The thing of the frame that a record or mark record is."""
    if isinstance(link, MarkRecord):
        return ("mark",)
    if link.word != "way":
        return (link.word,) + link.detail
    road, then = link.detail
    if road[0] == "to":
        road = ("to", births_of_chain(road[1]), road[2])
    elif road[0] == "on":
        road = ("on", _births_from_wind(road[1], road[2]))
    return ("way", road, then)


def _births_from_wind(top, number):
    """The births of the frames from a record down to the number-th wind of its row, bottom first."""
    births = [top.birth]
    while top.word != "wind" or top.deep != number:
        top = top.below
        births.append(top.birth)
    return tuple(births[::-1])


def chain_of(frames, things):
    """The chain of a row of frames: the opposite of chain_frames."""
    return chains_of((frames,), things)[0]


def chains_of(rows, things):
    """The chains of rows of frames; rows that begin alike share their records."""
    linking = Linking(things)
    # The frames of a road are elder than its way frame, so that the goals of those among them are there before.
    for birth in _ways_to(rows, things):
        linking.link_goal(birth)
    return tuple([linking.linked(frames) for frames in rows])


def _ways_to(rows, things):
    """The ascending births of the way frames with a road "to" in rows of frames, in rows of their roads, and so on."""
    found = {}
    waiting = list(rows)
    while waiting:
        for birth in waiting.pop():
            thing = things[birth]
            if thing[0] == "way" and birth not in found:
                found[birth] = thing[1][0] == "to"
                if thing[1][0] in ("to", "on"):
                    waiting.append(thing[1][1])
    return [birth for birth in sorted(found) if found[birth]]


class Linking:
    """Links frames by their things; a frame that lies on the same record twice is one record."""

    def __init__(self, things):
        self._things = things
        # The chains to which roads "to" lead, by the births of their way frames.
        self._goals = {}
        # The records by their birth and what lies beneath them.
        self._known = {}

    def link_goal(self, birth):
        """Links the goal of the road "to" of a way frame."""
        self._goals[birth] = self.linked(self._things[birth][1][1])

    def linked(self, frames):
        """The chain of frames; the goals of the ways among them are linked before."""
        marked = None
        above = []
        for birth in frames:
            if self._things[birth][0] == "mark":
                marked = self._mark_on(birth, self._put_on(None, above), marked)
                above = []
            else:
                above.append(birth)
        return Chain(self._put_on(None, above), marked)

    def _mark_on(self, birth, top, outer):
        key = (birth, top, outer)
        if key not in self._known:
            self._known[key] = MarkRecord(birth, top, outer)
        return self._known[key]

    def _one_on(self, birth, detail, below):
        """The record of a frame on another record, or at the bottom."""
        key = (birth, below)
        if key not in self._known:
            self._known[key] = Record(birth, self._things[birth][0], detail, below)
        return self._known[key]

    def _put_on(self, below, frames):
        """The topmost record when frames without marks lie on a record."""
        # The rows that are being put on, each with its topmost frame first, and the record that each has come to.
        # A row above another one is that of the road "on" of the other's next frame: it goes on from the same record.
        rows = [list(frames)[::-1]]
        tops = [below]
        while True:
            if rows[-1]:
                birth = rows[-1][-1]
                thing = self._things[birth]
                if thing[0] == "way" and thing[1][0] == "on":
                    rows.append(list(thing[1][1])[::-1])
                    tops.append(tops[-1])
                else:
                    rows[-1].pop()
                    tops[-1] = self._one_on(birth, self._detail_of(birth, thing), tops[-1])
            else:
                rows.pop()
                top = tops.pop()
                if not rows:
                    return top
                birth = rows[-1].pop()
                road = ("on", top, deep_of(tops[-1]) + 1)
                tops[-1] = self._one_on(birth, (road, self._things[birth][2]), tops[-1])

    def _detail_of(self, birth, thing):
        if thing[0] == "way" and thing[1][0] == "to":
            return (("to", self._goals[birth], thing[1][2]), thing[2])
        return thing[1:]


def common_winds(first, second):
    """How many winds, counted from the bottom over all marks, two chains share."""
    many = 0
    for one, other in zip(_winds_of(first), _winds_of(second)):
        if one != other:
            break
        many += 1
    return many


def _winds_of(chain):
    """The births of the winds of a chain over all marks, bottom first."""
    births = []
    top, marked = chain.top, chain.marked
    while top is not None or marked is not None:
        if top is None:
            top, marked = marked.top, marked.outer
        else:
            if top.word == "wind":
                births.append(top.birth)
            top = top.wound
    return births[::-1]


def cut_under(chain, number):
    """The chain beneath the number-th wind from the bottom."""
    top, marked = _at_wind(chain, number)
    return Chain(top.below, marked)


def cut_with(chain, number):
    """The chain up to and with the number-th wind from the bottom; no frames for 0."""
    if number == 0:
        return Chain(None, None)
    top, marked = _at_wind(chain, number)
    return Chain(top, marked)


def _at_wind(chain, number):
    """The record of the number-th wind from the bottom, and the record of the nearest mark beneath it."""
    top, marked = chain.top, chain.marked
    while number <= deep_of(marked):
        top, marked = marked.top, marked.outer
    while top.word != "wind" or top.deep != number - deep_of(marked):
        top = top.wound
    return (top, marked)
