"""bounce.py: [5.2]."""

import unittest

from goonagain.bounce import Bounce, run_bounces


def down(n):
    return Bounce(down, n - 1) if n > 0 else None


class Bounces(unittest.TestCase):
    def test_a_bounce_keeps_what_it_is_given(self):
        worth = [1]
        bounce = Bounce(len, worth)
        self.assertIs(bounce.deed, len)
        self.assertIs(bounce.worth, worth)
        self.assertEqual((Bounce(1, None).deed, Bounce(1, None).worth), (1, None))

    def test_none(self):
        self.assertEqual(run_bounces(None), (0, None))
        self.assertEqual(run_bounces(None, 0), (0, None))
        self.assertEqual(run_bounces(None, 5), (0, None))

    def test_most(self):
        # Bounce(down, 4) is five bounces in all.
        for most in (0, 1, 4):
            many, left = run_bounces(Bounce(down, 4), most)
            self.assertEqual((many, left.worth), (most, 4 - most))
        for most in (5, 6, 1000):
            self.assertEqual(run_bounces(Bounce(down, 4), most), (5, None))
        self.assertEqual(run_bounces(Bounce(down, 4)), (5, None))

    def test_most_0_performs_nothing(self):
        done = []
        bounce = Bounce(done.append, 1)
        many, left = run_bounces(bounce, 0)
        self.assertEqual((many, done), (0, []))
        self.assertIs(left, bounce)

    def test_each_deed_is_called_once_with_its_worth(self):
        done = []

        def note(worth):
            done.append(worth)
            return Bounce(note, worth + 1) if worth < 3 else None
        self.assertEqual(run_bounces(Bounce(note, 0)), (4, None))
        self.assertEqual(done, [0, 1, 2, 3])

    def test_a_bounce_run_again(self):
        many, left = run_bounces(Bounce(down, 9), 4)
        self.assertEqual(many, 4)
        self.assertEqual(run_bounces(left, 100), (6, None))
        self.assertEqual(run_bounces(left, 2)[0], 2)
        self.assertEqual(run_bounces(left), (6, None))

    def test_many(self):
        self.assertEqual(run_bounces(Bounce(down, 4999)), (5000, None))
        self.assertEqual(run_bounces(Bounce(down, 199999)), (200000, None))

    def test_a_million_unless_it_is_said(self):
        def again(worth):
            return Bounce(again, worth)
        many, left = run_bounces(Bounce(again, "w"))
        self.assertEqual((many, left.worth), (1000000, "w"))


if __name__ == "__main__":
    unittest.main()
