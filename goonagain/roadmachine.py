"""What the machines share whose present frames lie as items on a list: the roads between rests."""

from goonagain.machine import Machine


class RoadMachine(Machine):
    """Goes along roads; the present frames lie on the list `_present`, which is changed in place.

    Rests and roads have tuples of such items. The machines below this class say which items are winds and marks,
    and push way frames and marks.
    """

    def _winds_in(self, row):
        """The winds among items as a list of (position, birth, enter, leave), bottom first."""
        raise NotImplementedError("each machine has items of its own")

    def _mark_end(self):
        """How many of the present items lie up to and with the nearest mark, 0 if there is none."""
        raise NotImplementedError("each machine has items of its own")

    def _taken_over(self, row):
        """Items that are to be put on, or to become the present ones, as a tuple."""
        raise NotImplementedError("each machine has items of its own")

    def _push_way(self, road, then):
        """Makes and pushes a way frame."""
        raise NotImplementedError("each machine has items of its own")

    def _push_mark(self):
        """Makes and pushes a mark."""
        raise NotImplementedError("each machine has items of its own")

    def _go_on_with(self, thing):
        """Begins the road of a rest that is called; the value that is to be given now, or None at a call."""
        then = ("give", self._handed[0])
        if thing[0] == "piece":
            self._push_mark()
            return self._put_on(thing[1], then)
        return self._go_to(thing[1], 0, then)

    def _begin_deed(self, deed, road, then):
        """Stands at the call of a deed, with a new way frame above what is present."""
        self._push_way(road, then)
        self._stand_at(deed, ())

    def _arrive(self, then):
        """What a road ends with, as _go_on_with."""
        if then[0] == "give":
            return then[1]
        self._stand_at(then[1], then[2])
        return None

    def _go_to(self, row, number, then):
        """The next step of a road to a whole rest, as _go_on_with."""
        goal = self._winds_in(row)
        present = self._present if number == 0 else row[:goal[number - 1][0] + 1]
        left = self._winds_in(present)
        shared = 0
        while shared < min(len(left), len(goal)) and left[shared][1] == goal[shared][1]:
            shared += 1
        if shared < len(left):
            # Behind an enter deed all winds are shared: what is left lies among the present items themselves.
            del self._present[left[-1][0]:]
            self._begin_deed(left[-1][3], ("to", row, 0), then)
        elif shared < len(goal):
            self._present[:] = self._taken_over(row[:goal[shared][0]])
            self._begin_deed(goal[shared][2], ("to", row, shared + 1), then)
        else:
            self._present[:] = self._taken_over(row)
            return self._arrive(then)
        return None

    def _put_on(self, row, then):
        """Puts items on up to their first wind, the next step of a road "on"; as _go_on_with."""
        winds = self._winds_in(row)
        if not winds:
            self._present.extend(self._taken_over(row))
            return self._arrive(then)
        first = winds[0][0]
        self._present.extend(self._taken_over(row[:first]))
        self._begin_deed(winds[0][2], ("on", row[first:]), then)
        return None

    def _take_off(self, then):
        """The next step of a road "off", as _go_on_with."""
        end = self._mark_end()
        winds = self._winds_in(self._present)
        if winds and winds[-1][0] >= end:
            del self._present[winds[-1][0]:]
            self._begin_deed(winds[-1][3], ("off",), then)
            return None
        del self._present[end:]
        return self._arrive(then)

    def _go_along(self, road, then):
        """The next step of the road of a way frame whose deed has given a value, as _go_on_with."""
        word = road[0]
        if word == "to":
            return self._go_to(road[1], road[2], then)
        if word == "on":
            self._present.append(road[1][0])
            return self._put_on(road[1][1:], then)
        if word == "off":
            return self._take_off(then)
        return self._arrive(then)

    def _passed_on(self, frame, worth):
        """The value that a frame without rows, which is off the list, gives on, or None at a call or a fault."""
        word = frame[0]
        if word == "mark":
            return worth
        if word == "pass":
            return self._passed_once(frame[1], worth)
        if word == "wind":
            self._begin_deed(frame[2], ("out",), ("give", worth))
            return None
        return self._go_along(frame[1], frame[2])
