"""ways.py: [4.1] to [4.8]."""

import random
import unittest

from goonagain.ways import deeds_of_way, lay_on, mark_cut, next_step, shared_winds, winds_of

# Winds 1, 3, 5, 7 with enter values 10 * birth and leave values 10 * birth + 1; others between them.
THINGS = {
    1: ("wind", 10, 11), 2: ("mark",), 3: ("wind", 30, 31), 4: ("wait", 0, ()), 5: ("wind", 50, 51), 6: ("pass", 99),
    7: ("wind", 70, 71), 8: ("way", ("out",), ("give", 1)), 9: ("mark",),
}


class Rows(unittest.TestCase):
    def test_winds_of(self):
        self.assertEqual(winds_of((), THINGS), ())
        self.assertEqual(winds_of((2, 4, 6, 8), THINGS), ())
        self.assertEqual(winds_of((1, 2, 3, 4, 5), THINGS), ((0, 1), (2, 3), (4, 5)))
        self.assertEqual(winds_of([4, 1, 2, 1, 1], THINGS), ((1, 1), (3, 1), (4, 1)))

    def test_shared_winds(self):
        for present, goal, many in (
            ((), (), 0), ((1,), (), 0), ((), (1,), 0), ((1,), (1,), 1), ((1, 3), (1, 5), 1), ((1, 3), (3, 1), 0),
            ((1, 4, 3), (2, 1, 6, 3, 5), 2), ((4, 6), (2,), 0), ((1, 1, 1), (1, 1), 2), ((1, 2, 1), (1, 1, 3), 2),
            ((3, 1, 5), (1, 5), 0), ((1, 3, 5, 7), (1, 3, 7, 5), 2), ((1, 3, 5), (1, 5, 5), 1),
        ):
            self.assertEqual(shared_winds(present, goal, THINGS), many, (present, goal))
            self.assertEqual(shared_winds(list(goal), list(present), THINGS), many)

    def test_deeds_of_way(self):
        self.assertEqual(deeds_of_way((), (), THINGS), ())
        self.assertEqual(deeds_of_way((1, 2, 3), (1, 3, 4), THINGS), ())
        self.assertEqual(deeds_of_way((1, 4, 3, 5), (1, 7, 6, 3), THINGS), (
            ("leave", 3, 5), ("leave", 2, 3), ("enter", 1, 7), ("enter", 3, 3)))
        self.assertEqual(deeds_of_way((4, 1, 1), (1,), THINGS), (("leave", 2, 1),))
        self.assertEqual(deeds_of_way([1], [1, 2, 1, 9, 1], THINGS), (("enter", 2, 1), ("enter", 4, 1)))
        self.assertEqual(deeds_of_way((3, 5), (2, 1), THINGS), (("leave", 1, 5), ("leave", 0, 3), ("enter", 1, 1)))

    def test_mark_cut(self):
        self.assertEqual(mark_cut((), THINGS), 0)
        self.assertEqual(mark_cut((1, 4, 5), THINGS), 0)
        self.assertEqual(mark_cut((2,), THINGS), 1)
        self.assertEqual(mark_cut((1, 2, 3, 4), THINGS), 2)
        self.assertEqual(mark_cut([2, 1, 9, 2, 5], THINGS), 4)
        self.assertEqual(mark_cut((1, 2, 2), THINGS), 3)


class Steps(unittest.TestCase):
    def test_to_leaves_the_topmost_first(self):
        goal = (1, 7)
        self.assertEqual(next_step((1, 4, 3, 6, 5, 8), ("to", goal, 0), THINGS), ("leave", 51, (1, 4, 3, 6), ("to", goal, 0)))
        self.assertEqual(next_step((1, 4, 3, 6), ("to", goal, 0), THINGS), ("leave", 31, (1, 4), ("to", goal, 0)))
        self.assertEqual(next_step((1, 4), ("to", goal, 0), THINGS), ("enter", 70, (1,), ("to", goal, 2)))
        self.assertEqual(next_step((1,), ("to", goal, 2), THINGS), ("arrive", None, goal, None))

    def test_to_enters_from_the_bottom(self):
        goal = (4, 1, 2, 3, 6, 5, 8)
        self.assertEqual(next_step((), ("to", goal, 0), THINGS), ("enter", 10, (4,), ("to", goal, 1)))
        self.assertEqual(next_step((4,), ("to", goal, 1), THINGS), ("enter", 30, (4, 1, 2), ("to", goal, 2)))
        self.assertEqual(next_step((4, 1, 2), ("to", goal, 2), THINGS), ("enter", 50, (4, 1, 2, 3, 6), ("to", goal, 3)))
        self.assertEqual(next_step((4, 1, 2, 3, 6), ("to", goal, 3), THINGS), ("arrive", None, goal, None))

    def test_to_from_where_a_deed_has_gone_elsewhere(self):
        # Behind an enter deed it stands at its own goal, wherever the way frame lies.
        self.assertEqual(next_step((7, 7, 7), ("to", (1, 3, 5), 1), THINGS), ("enter", 30, (1,), ("to", (1, 3, 5), 2)))
        self.assertEqual(next_step((7, 7), ("to", (1, 3), 2), THINGS), ("arrive", None, (1, 3), None))
        # Behind a leave deed it stands where the way frame lies.
        self.assertEqual(next_step((7, 3), ("to", (1,), 0), THINGS), ("leave", 31, (7,), ("to", (1,), 0)))
        self.assertEqual(next_step((), ("to", (), 0), THINGS), ("arrive", None, (), None))

    def test_to_with_one_wind_several_times(self):
        goal = (1, 4, 1, 1)
        self.assertEqual(next_step((1,), ("to", goal, 0), THINGS), ("enter", 10, (1, 4), ("to", goal, 2)))
        self.assertEqual(next_step((1, 4), ("to", goal, 2), THINGS), ("enter", 10, (1, 4, 1), ("to", goal, 3)))

    def test_on(self):
        self.assertEqual(next_step((4, 2), ("on", (1, 6, 3, 5, 8)), THINGS), ("enter", 30, (4, 2, 1, 6), ("on", (3, 5, 8))))
        self.assertEqual(next_step((4, 2, 1, 6), ("on", (3, 5, 8)), THINGS), ("enter", 50, (4, 2, 1, 6, 3), ("on", (5, 8))))
        self.assertEqual(next_step((4, 2, 1, 6, 3), ("on", (5, 8)), THINGS), ("arrive", None, (4, 2, 1, 6, 3, 5, 8), None))
        self.assertEqual(next_step((7,), ("on", (1,)), THINGS), ("arrive", None, (7, 1), None))

    def test_off(self):
        self.assertEqual(next_step((1, 2, 3, 4, 5, 6), ("off",), THINGS), ("leave", 51, (1, 2, 3, 4), ("off",)))
        self.assertEqual(next_step((1, 2, 3, 4), ("off",), THINGS), ("leave", 31, (1, 2), ("off",)))
        self.assertEqual(next_step((1, 2), ("off",), THINGS), ("arrive", None, (1, 2), None))
        self.assertEqual(next_step((1, 2, 4, 6), ("off",), THINGS), ("arrive", None, (1, 2), None))
        self.assertEqual(next_step((1, 4), ("off",), THINGS), ("leave", 11, (), ("off",)))
        self.assertEqual(next_step((4, 6), ("off",), THINGS), ("arrive", None, (), None))
        self.assertEqual(next_step((), ("off",), THINGS), ("arrive", None, (), None))

    def test_out(self):
        self.assertEqual(next_step((1, 2, 5), ("out",), THINGS), ("arrive", None, (1, 2, 5), None))
        self.assertEqual(next_step((), ("out",), THINGS), ("arrive", None, (), None))

    def test_lay_on(self):
        self.assertEqual(lay_on((4, 2), (), THINGS), ("arrive", None, (4, 2), None))
        self.assertEqual(lay_on((4, 2), (6, 8), THINGS), ("arrive", None, (4, 2, 6, 8), None))
        self.assertEqual(lay_on((4, 2), (6, 1, 8, 3), THINGS), ("enter", 10, (4, 2, 6), ("on", (1, 8, 3))))
        self.assertEqual(lay_on((), (1,), THINGS), ("enter", 10, (), ("on", (1,))))
        # A wind below is not asked for.
        self.assertEqual(lay_on((1,), (1, 4), THINGS), ("enter", 10, (1,), ("on", (1, 4))))

    def test_lists_give_tuples(self):
        self.assertEqual(next_step([4, 2], ["on", [1, 6, 3]], THINGS), ("enter", 30, (4, 2, 1, 6), ("on", (3,))))
        self.assertEqual(next_step([1, 3], ["to", [1], 0], THINGS), ("leave", 31, (1,), ("to", (1,), 0)))
        self.assertEqual(next_step([1], ("to", [4, 1], 0), THINGS), ("arrive", None, (4, 1), None))
        self.assertEqual(next_step([1, 2], ["off"], THINGS), ("arrive", None, (1, 2), None))
        self.assertEqual(next_step([1, 2], ["out"], THINGS), ("arrive", None, (1, 2), None))
        self.assertEqual(lay_on([4], [6, 1], THINGS), ("enter", 10, (4, 6), ("on", (1,))))

    def test_example_4_8(self):
        things = {1: ("wind", 7, 8), 2: ("mark",), 3: ("wind", 17, 18)}
        self.assertEqual(deeds_of_way((1, 2), (1, 3), things), (("enter", 1, 3),))
        self.assertEqual(deeds_of_way((1, 2, 3), (2, 1), things), (("leave", 2, 3),))
        self.assertEqual(next_step((1, 2, 3), ("off",), things), ("leave", 18, (1, 2), ("off",)))

    def test_nothing_is_changed(self):
        things, present, goal = dict(THINGS), [1, 2, 3], [1, 5, 7]
        winds_of(present, things), shared_winds(present, goal, things), deeds_of_way(present, goal, things)
        lay_on(present, goal, things), next_step(present, ("to", goal, 0), things), next_step(present, ("off",), things)
        self.assertEqual((things, present, goal), (THINGS, [1, 2, 3], [1, 5, 7]))


class WholeWays(unittest.TestCase):
    """[4.7]: the steps of a way whose deeds all give a value."""

    def rows(self):
        chance = random.Random(7)
        for _ in range(300):
            present = tuple(chance.choice((1, 2, 3, 4, 5, 6)) for _ in range(chance.randint(0, 6)))
            goal = present[:chance.randint(0, 6)] + tuple(chance.choice((1, 2, 3, 4, 5)) for _ in range(chance.randint(0, 5)))
            yield present, goal

    def followed(self, step):
        steps = []
        while step[0] != "arrive":
            steps.append(step)
            step = next_step(step[2], step[3], THINGS)
        return steps, step[2]

    def test_to(self):
        for present, goal in self.rows():
            steps, end = self.followed(next_step(present, ("to", goal, 0), THINGS))
            self.assertEqual(end, goal)
            due = []
            for word, position, birth in deeds_of_way(present, goal, THINGS):
                row = present if word == "leave" else goal
                due.append((word, THINGS[birth][2 if word == "leave" else 1], row[:position]))
            self.assertEqual([step[:3] for step in steps], due)

    def test_on(self):
        for below, frames in self.rows():
            steps, end = self.followed(lay_on(below, frames, THINGS))
            self.assertEqual(end, below + frames)
            due = [("enter", THINGS[birth][1], below + frames[:at]) for at, birth in winds_of(frames, THINGS)]
            self.assertEqual([step[:3] for step in steps], due)

    def test_off(self):
        for present, _ in self.rows():
            steps, end = self.followed(next_step(present, ("off",), THINGS))
            cut = mark_cut(present, THINGS)
            self.assertEqual(end, present[:cut])
            above = [(at, birth) for at, birth in winds_of(present, THINGS) if at >= cut]
            due = [("leave", THINGS[birth][2], present[:at]) for at, birth in above[::-1]]
            self.assertEqual([step[:3] for step in steps], due)


if __name__ == "__main__":
    unittest.main()
