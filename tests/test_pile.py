"""pile.py: [8.1], [8.2]."""

import unittest

from makeprograms import good_tree
from writtenprograms import TEXTS

from goonagain.pile import frames_of, slots_of
from goonagain.pilemachine import PileMachine
from goonagain.program import Program
from goonagain.rows import Layout, place_layouts

# Places 0 and 1 lie within one another: (1, 0, (0,), -1) and (3, 2, (0, 2), 0).
NESTED = place_layouts(Program("(+ 1 (+ 2 (3)))"))
TRUE = ("true",)


class Both(unittest.TestCase):
    def both(self, layouts, slots, frames, roads=None, things=None):
        """frames are pairs (birth, thing); things those that the frames of roads need besides."""
        roads = roads or {}
        self.assertEqual(frames_of(layouts, slots, roads), frames)
        self.assertEqual(frames_of(layouts, list(slots), roads), frames)
        births = tuple(birth for birth, _ in frames)
        known = dict(frames)
        known.update(things or {})
        self.assertEqual(slots_of(layouts, births, known), slots)
        self.assertEqual(slots_of(list(layouts), list(births), known), slots)


class Markers(Both):
    def test_no_frames(self):
        self.both((), (), ())

    def test_a_wait(self):
        self.both(NESTED, (7, ("wait", 4, 0)), ((4, ("wait", 0, (7,))),))
        wide = (Layout(3, 0, (0, 1, 2), -1),)
        self.both(wide, (7, ("pair", 2), TRUE, ("wait", 4, 0)), ((4, ("wait", 0, (7, ("pair", 2), TRUE))),))
        self.both((Layout(0, 0, (), -1),), (("wait", 4, 0),), ((4, ("wait", 0, ())),))

    def test_an_outer_place(self):
        self.both(NESTED, (7, ("wait", 4, 0), 8, ("wait", 5, 1)), ((4, ("wait", 0, (7,))), (5, ("wait", 1, (7, 8)))))
        # Nothing is bound between the two markers.
        layouts = (Layout(1, 0, (0,), -1), Layout(2, 2, (0,), 0), Layout(3, 3, (0,), 1))
        self.both(layouts, (7, ("wait", 4, 0), ("wait", 5, 1), ("wait", 6, 2)),
                  ((4, ("wait", 0, (7,))), (5, ("wait", 1, (7,))), (6, ("wait", 2, (7,)))))
        self.both(NESTED, (7, ("wait", 4, 0), 8, ("wait", 5, 1), 9, ("wait", 6, 0), -1, ("wait", 7, 1)), (
            (4, ("wait", 0, (7,))), (5, ("wait", 1, (7, 8))), (6, ("wait", 0, (9,))), (7, ("wait", 1, (9, -1)))))

    def test_mark_pass_and_wind(self):
        self.both((), (("mark", 1), ("pass", 3, 2), ("wind", 5, ("fun", 4), 0)),
                  ((1, ("mark",)), (3, ("pass", 2)), (5, ("wind", ("fun", 4), 0))))
        self.both(NESTED, (("mark", 1), 7, ("wait", 4, 0), ("wind", 5, 1, 2), 8, ("wait", 6, 0), ("mark", 9)), (
            (1, ("mark",)), (4, ("wait", 0, (7,))), (5, ("wind", 1, 2)), (6, ("wait", 0, (8,))), (9, ("mark",))))

    def test_the_same_frame_twice(self):
        self.both(NESTED, (("mark", 1), 7, ("wait", 4, 0), ("mark", 2), 7, ("wait", 4, 0)), (
            (1, ("mark",)), (4, ("wait", 0, (7,))), (2, ("mark",)), (4, ("wait", 0, (7,)))))

    def test_values_above_the_last_marker_are_passed_over(self):
        self.assertEqual(frames_of(NESTED, (7, ("wait", 4, 0), 8, TRUE, ("rest", 2)), {}), ((4, ("wait", 0, (7,))),))
        self.assertEqual(frames_of(NESTED, (7, 8), {}), ())

    def test_values_are_no_markers(self):
        values = (TRUE, ("false",), ("none",), ("pair", 1), ("fun", 2), ("rest", 3), -5)
        layouts = (Layout(7, 0, (0, 1, 2, 3, 4, 5, 6), -1),)
        self.both(layouts, values + (("wait", 9, 0),), ((9, ("wait", 0, values)),))


class Roads(Both):
    def test_out_and_off(self):
        for road in (("out",), ("off",)):
            for then in (("give", 5), ("call", ("fun", 1), (TRUE, 6))):
                self.both((), (("way", 3),), ((3, ("way", road, then)),), {3: (road, then)})

    def test_to(self):
        slots = (7, ("wait", 4, 0), ("wind", 5, 1, 2), 8, ("wait", 6, 0))
        for k in (0, 1):
            self.both(NESTED, (("mark", 1), ("way", 9)), ((1, ("mark",)), (9, ("way", ("to", (4, 5, 6), k), ("give", 5)))),
                      {9: (("to", slots, k), ("give", 5))})
        self.both((), (("way", 9),), ((9, ("way", ("to", (), 0), ("give", 5))),), {9: (("to", (), 0), ("give", 5))})

    def test_on(self):
        slots = (("wind", 5, 1, 2), 8, ("wait", 6, 0), 9, ("wait", 7, 1))
        self.both(NESTED, (("way", 9),), ((9, ("way", ("on", (5, 6, 7)), ("give", TRUE))),), {9: (("on", slots), ("give", TRUE))})
        self.both((), (("way", 9),), ((9, ("way", ("on", (5,)), ("call", 1, ()))),), {9: (("on", slots[:1]), ("call", 1, ()))})

    def test_a_way_in_the_frames_of_a_road(self):
        self.both((), (("way", 9),), ((9, ("way", ("to", (3, 5), 0), ("give", 1))),),
                  {9: (("to", (("way", 3), ("wind", 5, 6, 7)), 0), ("give", 1)), 3: (("out",), ("give", 2))})

    def test_the_roads_may_be_more(self):
        roads = {birth: (("out",), ("give", birth)) for birth in range(20)}
        self.assertEqual(frames_of((), (("way", 3), ("way", 8)), roads),
                         ((3, ("way", ("out",), ("give", 3))), (8, ("way", ("out",), ("give", 8)))))
        self.assertEqual(roads, {birth: (("out",), ("give", birth)) for birth in range(20)})


class Piles(unittest.TestCase):
    """Each takes back what the other gives, for the piles that machines reach."""

    def check(self, program, fuel):
        layouts = place_layouts(program)
        machine = PileMachine(program, (1, 2), fuel)
        while machine.outcome is None:
            things = dict(machine.standing().things)
            slots, roads = machine.pile_slots(), machine.roads_kept()
            frames = frames_of(layouts, slots, roads)
            self.assertEqual(frames, tuple((birth, things[birth]) for birth in machine.standing().frames))
            self.assertEqual(slots_of(layouts, machine.standing().frames, things), slots)
            # Every slot is one that a frame needs: the last one is a marker.
            self.assertTrue(slots == () or slots[-1] in [slot for slot in slots if isinstance(slot, tuple) and slot[0] in (
                "wait", "mark", "pass", "wind", "way")])
            for birth, (road, then) in roads.items():
                if road[0] in ("to", "on"):
                    births = things[birth][1][1]
                    self.assertEqual(slots_of(layouts, births, things), road[1])
                self.assertEqual(things[birth][2], then)
            machine.advance()

    def test_written_programs(self):
        for text in TEXTS:
            self.check(Program(text), 60)

    def test_random_programs(self):
        for seed in range(150):
            tree = good_tree(seed, deep=5, gentle=seed % 2 == 0)
            if tree is not None:
                self.check(Program.of_tree(tree), 20)


if __name__ == "__main__":
    unittest.main()
