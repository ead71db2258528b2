"""Hands: programs whose parts take turns by a queue."""

from goonagain.recipes import check_plan

HANDS_TEXT = (
    "(let ((queue none)) (rec"
    " ((put (fn (q x) (if (none? q) (pair x none) (pair (left q) (put (right q) x)))))"
    " (start (fn (f) (set queue (put queue f))))"
    " (away (fn () (take k (start (fn () (k none))))))"
    " (run (fn () (if (none? queue) none"
    " (let ((h (left queue))) (do (set queue (right queue)) (mark (h)) (run)))))))"
    " (do ",
    " (run))))",
)


class Level:
    """A hand that is being gone through: its next step, and the number of the "within" around it, if there is one."""

    def __init__(self, steps, within):
        self.steps = steps
        self.within = within
        self.at = 0


class Turns:
    """Hands that take turns: those in the queue, and what was shown so far.

    A hand in the queue is the list of its levels, the outermost first.
    """

    def __init__(self, plan):
        self.queue = [[Level(hand, None)] for hand in plan]
        self.shown = []

    def take_turns(self):
        """Goes on until the queue is empty."""
        while self.queue:
            levels = self.queue.pop(0)
            self.shown.extend([level.within for level in levels if level.within is not None])
            while levels and not self._goes_away(levels):
                self._go_on(levels)

    def _goes_away(self, levels):
        """Whether the next step of a hand is to go away; then it is done."""
        level = levels[-1]
        if level.at == len(level.steps) or level.steps[level.at][0] != "away":
            return False
        level.at += 1
        self.shown.extend([-one.within for one in levels[::-1] if one.within is not None])
        self.queue.append(levels)
        return True

    def _go_on(self, levels):
        """Does the next step of a hand, or ends its innermost level."""
        level = levels[-1]
        if level.at == len(level.steps):
            levels.pop()
            if level.within is not None:
                self.shown.append(-level.within)
            return
        step = level.steps[level.at]
        level.at += 1
        if step[0] == "say":
            self.shown.append(step[1])
        elif step[0] == "new":
            self.queue.append([Level(step[1], None)])
        else:
            self.shown.append(step[1])
            levels.append(Level(step[2], step[1]))


def hands_text(plan):
    """The text of a program in which the hands of a plan take turns."""
    check_plan(plan, "hands")
    return HANDS_TEXT[0] + " ".join([_start_text(hand) for hand in plan]) + HANDS_TEXT[1]


def hands_shown(plan):
    """The texts that the program of a plan shows."""
    check_plan(plan, "hands")
    turns = Turns(plan)
    turns.take_turns()
    return tuple([str(number) for number in turns.shown])


def _start_text(hand):
    return f"(start (fn () {_hand_text(hand)}))"


def _hand_text(hand):
    return "(do " + " ".join([_step_text(step) for step in hand] + ["none"]) + ")"


def _step_text(step):
    word = step[0]
    if word == "say":
        return f"(show {step[1]})"
    if word == "away":
        return "(away)"
    if word == "new":
        return _start_text(step[1])
    return f"(wind (fn () (show {step[1]})) {_hand_text(step[2])} (fn () (show {-step[1]})))"
