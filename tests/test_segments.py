"""segments.py: [9.2], and Holding of [9.7]."""

import random
import unittest

from goonagain.segments import Holding, cut_blocks

# 1 to 19 wait, 20 to 23 cut frames of each word.
THINGS = {birth: ("wait", 0, ()) for birth in range(1, 20)}
THINGS.update({20: ("mark",), 21: ("pass", 30), 22: ("wind", 1, 2), 23: ("way", ("out",), ("give", 1)), 30: ("once", (21,), 0)})


class Cutting(unittest.TestCase):
    def cut(self, frames, *blocks):
        self.assertEqual(cut_blocks(frames, THINGS), blocks)
        self.assertEqual(cut_blocks(list(frames), THINGS), blocks)

    def test_no_frames(self):
        self.cut(())

    def test_waits_alone(self):
        self.cut((1,), (1,))
        self.cut((1, 2), (1, 2))
        self.cut((1, 2, 3), (1, 2, 3))
        self.cut((1, 2, 3, 4), (1, 2, 3, 4))
        self.cut((1, 2, 3, 4, 5), (1, 2, 3, 4), (5,))
        self.cut((1, 2, 3, 4, 5, 6), (1, 2, 3, 4), (5, 6))
        self.cut((1, 2, 3, 4, 5, 6, 7), (1, 2, 3, 4), (5, 6, 7))
        self.cut((1, 2, 3, 4, 5, 6, 7, 8), (1, 2, 3, 4), (5, 6, 7, 8))
        self.cut((1, 2, 3, 4, 5, 6, 7, 8, 9), (1, 2, 3, 4), (5, 6, 7, 8), (9,))

    def test_each_cut_frame_alone(self):
        for birth in (20, 21, 22, 23):
            self.cut((birth,), (birth,))
            self.cut((birth, 1, 2), (birth,), (1, 2))
            self.cut((1, birth, 2, 3), (1,), (birth,), (2, 3))
            self.cut((1, 2, birth), (1, 2), (birth,))
            self.cut((birth, birth), (birth,), (birth,))
            self.cut((1, 2, 3, 4, birth, 5), (1, 2, 3, 4), (birth,), (5,))
            self.cut((1, 2, 3, 4, 5, birth, 6, 7, 8, 9, 10), (1, 2, 3, 4), (5,), (birth,), (6, 7, 8, 9), (10,))

    def test_all_cut_frames(self):
        self.cut((20, 21, 1, 22, 23, 2, 3, 20), (20,), (21,), (1,), (22,), (23,), (2, 3), (20,))

    def test_the_same_birth_several_times(self):
        self.cut((1, 1, 1, 1, 1), (1, 1, 1, 1), (1,))
        self.cut((20, 1, 20, 1, 2, 1), (20,), (1,), (20,), (1, 2, 1))

    def test_random_rows(self):
        chance = random.Random(3)
        for _ in range(300):
            frames = tuple(chance.choice((1, 2, 3, 4, 5, 6, 7, 8, 20, 22)) for _ in range(chance.randint(0, 25)))
            blocks = cut_blocks(frames, THINGS)
            self.assertEqual(sum(blocks, ()), frames)
            for at, block in enumerate(blocks):
                self.assertIsInstance(block, tuple)
                if len(block) > 1:
                    self.assertTrue(set(block) <= set(range(1, 9)))
                    self.assertLessEqual(len(block), 4)
                if at and block[0] < 20 and blocks[at - 1][0] < 20:
                    # Only a block of four has waits behind it.
                    self.assertEqual(len(blocks[at - 1]), 4)

    def test_long_rows(self):
        self.assertEqual(len(cut_blocks((1,) * 9001, THINGS)), 2251)

    def test_what_is_passed_is_not_changed(self):
        frames, things = [1, 2, 20, 3], dict(THINGS)
        cut_blocks(frames, things)
        self.assertEqual((frames, things), ([1, 2, 20, 3], THINGS))


class Held(unittest.TestCase):
    def test_it_keeps_what_it_is_given(self):
        holding = Holding([1], "x", None, {2: 3})
        self.assertEqual((holding.blocks, holding.present, holding.opened, holding.rows), ([1], "x", None, {2: 3}))

    def test_equal_by_all_four(self):
        parts = (((1, (1,)),), (1,), (3,), ((2, (1,)),))
        self.assertTrue(Holding(*parts) == Holding(*parts))
        for at in range(4):
            other = list(parts)
            other[at] = ()
            self.assertFalse(Holding(*parts) == Holding(*other))
            self.assertTrue(Holding(*parts) != Holding(*other))
        self.assertFalse(Holding(*parts) == parts)


if __name__ == "__main__":
    unittest.main()
