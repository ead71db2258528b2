"""hands.py: [15.3], [15.10], [15.11]."""

import unittest

from makeplans import good_plan, shows_on_all

from goonagain.hands import hands_shown, hands_text

TEXT = ("(let ((queue none)) (rec ((put (fn (q x) (if (none? q) (pair x none) (pair (left q) (put (right q) x))))) (start (fn (f) (set queue (put queue f))))"
        " (away (fn () (take k (start (fn () (k none)))))) (run (fn () (if (none? queue) none (let ((h (left queue))) (do (set queue (right queue)) (mark (h)) (run)))))))"
        " (do START (run))))")
AWAY = ("away",)


def say(*numbers):
    return tuple(("say", number) for number in numbers)


def turns(hand):
    """A generator of what a hand shows, None where it goes away; each hand that begins is told as a tuple."""
    for step in hand:
        if step[0] == "say":
            yield step[1]
        elif step[0] == "away":
            yield None
        elif step[0] == "new":
            yield step[1]
        else:
            yield step[1]
            for one in turns(step[2]):
                if one is None:
                    yield -step[1]
                yield one
                if one is None:
                    yield step[1]
            yield -step[1]


def meant(plan):
    """The texts as [15.10] says them."""
    shown, queue = [], [turns(hand) for hand in plan]
    while queue:
        hand = queue.pop(0)
        for one in hand:
            if one is None:
                queue.append(hand)
                break
            if isinstance(one, tuple):
                queue.append(turns(one))
            else:
                shown.append(str(one))
    return tuple(shown)


class Texts(unittest.TestCase):
    def text(self, plan, *hands):
        self.assertEqual(hands_text(plan), TEXT.replace("START", " ".join("(start (fn () " + hand + "))" for hand in hands)))

    def test_each_step(self):
        self.text(((),), "(do none)")
        self.text((say(5),), "(do (show 5) none)")
        self.text((say(-5, 0),), "(do (show -5) (show 0) none)")
        self.text(((AWAY,),), "(do (away) none)")
        self.text(((("new", ()),),), "(do (start (fn () (do none))) none)")
        self.text(((("new", say(1)),),), "(do (start (fn () (do (show 1) none))) none)")
        self.text(((("within", 3, ()),),), "(do (wind (fn () (show 3)) (do none) (fn () (show -3))) none)")
        self.text(((("within", -3, (AWAY,)),),), "(do (wind (fn () (show -3)) (do (away) none) (fn () (show 3))) none)")
        self.text(((("within", 0, ()),),), "(do (wind (fn () (show 0)) (do none) (fn () (show 0))) none)")

    def test_several_hands(self):
        self.text((say(1), (), (AWAY, ("new", (("within", 2, say(3)),))), say(4)), "(do (show 1) none)", "(do none)",
                  "(do (away) (start (fn () (do (wind (fn () (show 2)) (do (show 3) none) (fn () (show -2))) none))) none)", "(do (show 4) none)")


class Shown(unittest.TestCase):
    def shown(self, plan, *due):
        self.assertEqual(hands_shown(plan), tuple(str(number) for number in due))
        self.assertTrue(shows_on_all(self, hands_text(plan), hands_shown(plan)))

    def test_turns(self):
        self.shown((say(1, 2),), 1, 2)
        self.shown(((), ()))
        self.shown((say(1), (), say(2), say(3)), 1, 2, 3)
        self.shown((say(1) + (AWAY,) + say(2), say(3) + (AWAY,) + say(4)), 1, 3, 2, 4)
        self.shown((say(1) + (AWAY, AWAY) + say(2), say(3) + (AWAY,) + say(4), say(5)), 1, 3, 5, 4, 2)
        self.shown(((AWAY,), (AWAY,) + say(1)), 1)

    def test_new_hands(self):
        self.shown(((("new", say(1)),) + say(2), say(3)), 2, 3, 1)
        self.shown(((("new", say(1) + (AWAY,) + say(2)), AWAY) + say(3),), 1, 3, 2)
        self.shown(((("new", (("new", (("new", say(1)),) + say(2)),) + say(3)),) + say(4), say(5)), 4, 5, 3, 2, 1)

    def test_away_within(self):
        self.shown(((("within", 5, say(1) + (AWAY,) + say(2)),), say(3)), 5, 1, -5, 3, 5, 2, -5)
        # Innermost first, and entered again outermost first.
        self.shown(((("within", 5, (("within", 6, (AWAY,) + say(1)),)),), say(3)), 5, 6, -6, -5, 3, 5, 6, 1, -6, -5)
        self.shown(((("within", 5, (("within", 6, (AWAY,)), AWAY)), AWAY) + say(1),), 5, 6, -6, -5, 5, 6, -6, -5, 5, -5, 1)
        # Behind a within.
        self.shown(((("within", 5, say(1)), AWAY) + say(2), say(3)), 5, 1, -5, 3, 2)
        self.shown(((("within", 0, (AWAY,)),),), 0, 0, 0, 0)

    def test_new_within_within(self):
        # What stands around the new one is not around its steps.
        self.shown(((("within", 5, (("new", (AWAY,) + say(1)), AWAY) + say(2)),),), 5, -5, 5, 2, -5, 1)
        self.shown(((("within", 5, (("new", (("within", 6, (AWAY,)),)),)),), say(7)), 5, -5, 7, 6, -6, 6, -6)

    def test_random_plans(self):
        ended = 0
        for seed in range(250):
            plan = good_plan("hands", seed)
            self.assertEqual(hands_shown(plan), meant(plan))
            ended += shows_on_all(self, hands_text(plan), hands_shown(plan))
        self.assertEqual(ended, 250)


if __name__ == "__main__":
    unittest.main()
