"""Makers: programs that hand items out one by one and are gone on with."""

from goonagain.errors import BadMost
from goonagain.recipes import check_plan

MOST_ITEMS = 20
AGAIN_TEXT = "(fn (i n f) (if (< i n) (do (f) (again (+ i 1) n f)) none))"
NEXT_TEXT = (
    "(fn (g m) (if (pair? g) (do (show (left g)) (if (< 1 m) (next ((right g) none) (- m 1)) none)) none))"
)


class Making:
    """A maker that is being gone through: what it has shown, the items still asked for, and what stands around."""

    def __init__(self, most):
        self.shown = []
        self.left = most
        # The numbers of the "within" parts that are entered, the outermost first.
        self.around = []

    def goes_on(self, part):
        """Goes through a part; returns whether the maker goes on behind it."""
        word = part[0]
        if word == "give":
            return self._handed_out(part[1])
        if word == "both":
            return self.goes_on(part[1]) and self.goes_on(part[2])
        if word == "within":
            return self._goes_within(part[1], part[2])
        for _ in range(part[1]):
            if not self.goes_on(part[2]):
                return False
        return True

    def _handed_out(self, number):
        self.shown.extend([-one for one in self.around[::-1]])
        self.shown.append(number)
        self.left -= 1
        if self.left == 0:
            return False
        self.shown.extend(self.around)
        return True

    def _goes_within(self, number, part):
        self.shown.append(number)
        self.around.append(number)
        if not self.goes_on(part):
            return False
        self.around.pop()
        self.shown.append(-number)
        return True


def makers_text(plan, most=MOST_ITEMS):
    """The text of a program that shows the items of a maker, at most so many."""
    _check(plan, most)
    maker = maker_text(plan)
    return f"(rec ((again {AGAIN_TEXT}) (next {NEXT_TEXT})) (next (mark {maker}) {most}))"


def makers_shown(plan, most=MOST_ITEMS):
    """The texts that the program of a maker shows."""
    _check(plan, most)
    making = Making(most)
    making.goes_on(plan)
    return tuple([str(number) for number in making.shown])


def _check(plan, most):
    check_plan(plan, "makers")
    if not isinstance(most, int) or isinstance(most, bool) or not 1 <= most <= MOST_ITEMS:
        raise BadMost(most)


def maker_text(part):
    """The text of a part of a maker."""
    word = part[0]
    if word == "give":
        return f"(take k (pair {part[1]} k))"
    if word == "both":
        return both_text(maker_text(part[1]), maker_text(part[2]))
    if word == "within":
        return within_text(part[1], maker_text(part[2]))
    return again_text(part[1], maker_text(part[2]))


def both_text(first, second):
    """The text of two parts, one behind the other."""
    return f"(do {first} {second})"


def within_text(number, inner):
    """The text of a wind around a part."""
    return f"(wind (fn () (show {number})) {inner} (fn () (show {-number})))"


def again_text(count, inner):
    """The text that goes through a part so many times."""
    return f"(again 0 {count} (fn () {inner}))"
