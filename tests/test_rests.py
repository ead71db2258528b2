"""rests.py: [12.1], [12.2]."""

import unittest

from makeprograms import good_tree
from writtenprograms import TEXTS

from goonagain.plain import PlainMachine
from goonagain.program import Program
from goonagain.rests import Chain, MarkRecord, Record, chain_frames, chain_of, chains_of, common_winds, cut_under, cut_with
from goonagain.ways import shared_winds, winds_of

GIVE, CALL = ("give", 7), ("call", ("fun", 1), (2,))
# 10 to 19 wait, 20 to 29 marks, 30 to 39 winds, 40 a pass frame.
THINGS = {birth: ("wait", birth, (birth,)) for birth in range(10, 20)}
THINGS.update({birth: ("mark",) for birth in range(20, 30)})
THINGS.update({birth: ("wind", birth, -birth) for birth in range(30, 40)})
THINGS[40] = ("pass", 5)


def births_in(chain):
    return tuple(birth for birth, _ in chain_frames(chain))


class Records(unittest.TestCase):
    def test_one_record(self):
        record = Record(3, "wait", (1, (2, 3)), None)
        self.assertEqual((record.birth, record.word, record.detail, record.below), (3, "wait", (1, (2, 3)), None))
        self.assertEqual((record.deep, record.wound), (0, None))

    def test_deep_and_wound(self):
        first = Record(1, "wait", (0, ()), None)
        wind = Record(2, "wind", (5, 6), first)
        self.assertEqual((wind.deep, wind.wound), (1, None))
        above = Record(3, "pass", (9,), wind)
        self.assertEqual((above.deep, above.below), (1, wind))
        self.assertIs(above.wound, wind)
        second = Record(4, "wind", (7, 8), above)
        self.assertEqual(second.deep, 2)
        self.assertIs(second.wound, wind)
        third = Record(5, "wind", (7, 8), second)
        self.assertEqual(third.deep, 3)
        self.assertIs(third.wound, second)
        top = Record(6, "way", (("out",), GIVE), third)
        self.assertEqual((top.deep, top.wound.birth), (3, 5))

    def test_marks(self):
        wind = Record(2, "wind", (5, 6), Record(1, "wind", (5, 6), None))
        bottom = MarkRecord(3, None, None)
        self.assertEqual((bottom.birth, bottom.top, bottom.outer, bottom.deep), (3, None, None, 0))
        mark = MarkRecord(4, wind, bottom)
        self.assertEqual((mark.birth, mark.deep), (4, 2))
        self.assertIs(mark.top, wind)
        self.assertIs(mark.outer, bottom)
        self.assertEqual(MarkRecord(5, None, mark).deep, 2)
        self.assertEqual(MarkRecord(5, Record(6, "wind", (1, 2), None), mark).deep, 3)
        # Above a mark winds are counted anew.
        self.assertEqual(Record(7, "wait", (0, ()), None).deep, 0)

    def test_chain(self):
        record, mark = Record(1, "wait", (0, ()), None), MarkRecord(2, None, None)
        chain = Chain(record, mark)
        self.assertIs(chain.top, record)
        self.assertIs(chain.marked, mark)
        self.assertEqual((Chain(None, None).top, Chain(None, None).marked), (None, None))


class BackAndForth(unittest.TestCase):
    def both(self, frames, things=THINGS):
        chain = chain_of(frames, things)
        self.assertEqual(chain_frames(chain), tuple((birth, things[birth]) for birth in frames))
        self.assertEqual(chain_frames(chain_of(list(frames), things)), chain_frames(chain))
        return chain

    def test_no_frames(self):
        chain = self.both(())
        self.assertEqual((chain.top, chain.marked), (None, None))

    def test_each_kind_of_frame(self):
        chain = self.both((10, 30, 40))
        self.assertEqual((chain.top.birth, chain.top.word, chain.top.detail, chain.marked), (40, "pass", (5,), None))
        self.assertEqual((chain.top.below.birth, chain.top.below.detail), (30, (30, -30)))
        self.assertEqual((chain.top.below.below.birth, chain.top.below.below.detail), (10, (10, (10,))))
        self.assertIsNone(chain.top.below.below.below)
        chain = self.both((10, 20))
        self.assertEqual((chain.top, chain.marked.birth, chain.marked.top.birth, chain.marked.outer), (None, 20, 10, None))

    def test_marks(self):
        chain = self.both((20, 21, 10, 30, 22, 31, 11))
        self.assertEqual((chain.top.birth, chain.top.below.birth, chain.top.below.below), (11, 31, None))
        self.assertEqual((chain.marked.birth, chain.marked.top.birth, chain.marked.deep), (22, 30, 1))
        self.assertEqual((chain.marked.outer.birth, chain.marked.outer.top, chain.marked.outer.outer.birth), (21, None, 20))
        self.assertEqual((chain.top.deep, chain.top.wound.birth, chain.marked.top.wound), (1, 31, None))

    def test_rows_that_begin_alike_share_their_records(self):
        one, two, three = chains_of(((10, 20, 30, 11), [10, 20, 30], (20, 30, 11)), THINGS)
        self.assertIs(one.marked, two.marked)
        self.assertIs(one.top.below, two.top)
        # Above another mark, the same frames directly on it are the same records; the mark itself lies on other frames.
        self.assertIs(three.top, one.top)
        self.assertIsNot(three.marked, one.marked)
        self.assertEqual([births_in(chain) for chain in (one, two, three)], [(10, 20, 30, 11), (10, 20, 30), (20, 30, 11)])
        self.assertEqual(chains_of((), THINGS), ())

    def test_the_same_piece_twice(self):
        self.both((20, 10, 30, 11, 21, 10, 30, 11, 12))

    def test_roads_without_frames(self):
        things = dict(THINGS)
        things.update({41: ("way", ("off",), CALL), 42: ("way", ("out",), GIVE)})
        chain = self.both((10, 41, 20, 42), things)
        self.assertEqual((chain.top.word, chain.top.detail), ("way", (("out",), GIVE)))
        self.assertEqual(chain.marked.top.detail, (("off",), CALL))

    def test_a_road_to(self):
        things = dict(THINGS)
        things.update({41: ("way", ("to", (10, 20, 30, 11), 1), GIVE), 42: ("way", ("to", (), 0), GIVE)})
        chain = self.both((12, 31, 41), things)
        road, then = chain.top.detail
        self.assertEqual((road[0], road[2], then), ("to", 1, GIVE))
        self.assertIsInstance(road[1], Chain)
        self.assertEqual(births_in(road[1]), (10, 20, 30, 11))
        self.assertEqual((chain.top.deep, chain.top.wound.birth), (1, 31))
        chain = self.both((42,), things)
        self.assertEqual((chain.top.detail[0][1].top, chain.top.detail[0][1].marked), (None, None))

    def test_a_road_on(self):
        things = dict(THINGS)
        things[41] = ("way", ("on", (31, 12, 32)), GIVE)
        chain = self.both((20, 10, 30, 11, 41), things)
        (word, top, number), then = chain.top.detail
        # The row of what is laid on goes on from the record below the way frame; its second wind runs.
        self.assertEqual((word, top.birth, number, then), ("on", 32, 2, GIVE))
        self.assertEqual((top.deep, top.below.birth, top.below.below.birth), (3, 12, 31))
        self.assertIs(top.below.below.below, chain.top.below)
        self.assertEqual((chain.top.deep, top.below.below.deep), (1, 2))
        # Directly above a mark, and at the bottom, it is the first one.
        for frames in ((30, 20, 41), (41,)):
            chain = self.both(frames, things)
            self.assertEqual((chain.top.detail[0][2], chain.top.detail[0][1].below.below.below), (1, None))

    def test_ways_within_the_frames_of_roads(self):
        things = dict(THINGS)
        things.update({41: ("way", ("on", (32,)), CALL), 42: ("way", ("to", (10, 41), 0), GIVE), 43: ("way", ("on", (33, 41, 42)), GIVE),
                       44: ("way", ("to", (20, 30, 43, 42, 21, 41), 1), GIVE)})
        chain = self.both((11, 31, 44), things)
        self.assertEqual(births_in(chain.top.detail[0][1]), (20, 30, 43, 42, 21, 41))
        chain = self.both((30, 43), things)
        top = chain.top.detail[0][1]
        self.assertEqual((top.birth, top.below.birth, top.below.below.birth), (42, 41, 33))
        # The way within lies above two winds already: its own one is the third.
        self.assertEqual((top.below.detail[0][2], top.below.detail[0][1].deep), (3, 3))
        self.assertEqual(births_in(top.detail[0][1]), (10, 41))
        self.assertEqual(top.detail[0][1].top.detail[0][2], 1)

    def rows_of(self, standing):
        rows = [standing.frames]
        for _, thing in standing.things:
            if thing[0] in ("keep", "once", "piece"):
                rows.append(thing[1])
            elif thing[0] == "way" and thing[1][0] == "to":
                rows.append(thing[1][1])
        return rows

    def check_run(self, program, fuel):
        many = 0
        machine = PlainMachine(program, (1, 2), fuel)
        while machine.outcome is None:
            standing = machine.standing()
            things = dict(standing.things)
            rows = self.rows_of(standing)
            chains = [self.both(row, things) for row in rows]
            for row, chain in zip(rows, chains):
                winds = winds_of(row, things)
                self.assertEqual((cut_with(chain, 0).top, cut_with(chain, 0).marked), (None, None))
                for number, (position, _) in enumerate(winds, 1):
                    self.assertEqual(births_in(cut_under(chain, number)), row[:position])
                    self.assertEqual(births_in(cut_with(chain, number)), row[:position + 1])
                for other, second in list(zip(rows, chains))[:5]:
                    self.assertEqual(common_winds(chain, second), shared_winds(row, other, things))
                many += 1
            machine.advance()
        return many

    def test_what_runs_come_to(self):
        many = 0
        for text in TEXTS:
            many += self.check_run(Program(text), 60)
        for seed in range(250):
            tree = good_tree(seed, deep=5 + seed % 2, gentle=seed % 3 > 0)
            if tree is not None:
                many += self.check_run(Program.of_tree(tree), 15)
        self.assertGreater(many, 2000)

    def test_what_is_passed_is_not_changed(self):
        frames, things = [20, 10, 30], dict(THINGS)
        chain_of(frames, things)
        self.assertEqual((frames, things), ([20, 10, 30], THINGS))


class Winds(unittest.TestCase):
    def chain(self, *frames):
        return chain_of(frames, THINGS)

    def test_common_winds(self):
        for first, second, many in (
            ((), (), 0), ((30,), (), 0), ((30,), (30,), 1), ((30, 31), (30, 32), 1), ((30, 31), (31, 30), 0), ((10, 30, 11, 31), (12, 30, 31, 13), 2),
            ((30, 20, 31), (30, 31), 2), ((30, 20, 31, 21, 32), (20, 30, 31, 33), 2), ((20, 30, 21, 30), (30, 30, 30), 2), ((10, 20), (10, 20), 0),
            ((30, 31, 32), (30, 33, 32), 1),
        ):
            self.assertEqual(common_winds(self.chain(*first), self.chain(*second)), many)
            self.assertEqual(common_winds(self.chain(*second), self.chain(*first)), many)
        chain = self.chain(30, 20, 31, 10)
        self.assertEqual(common_winds(chain, chain), 2)

    def test_cuts(self):
        frames = (10, 30, 20, 11, 31, 12, 32, 21, 22, 13, 30, 14)
        chain = self.chain(*frames)
        for number, position in ((1, 1), (2, 4), (3, 6), (4, 10)):
            self.assertEqual(births_in(cut_under(chain, number)), frames[:position])
            self.assertEqual(births_in(cut_with(chain, number)), frames[:position + 1])
            self.assertEqual(cut_with(chain, number).top.word, "wind")
        self.assertEqual(births_in(cut_with(chain, 0)), ())
        # The links are those of the chain itself.
        self.assertIs(cut_with(chain, 4).top, chain.top.below)
        self.assertIs(cut_under(chain, 4).marked, chain.marked)
        self.assertIs(cut_under(chain, 2).marked, chain.marked.outer.outer)
        self.assertIs(cut_with(chain, 1).top, chain.marked.outer.outer.top)
        self.assertIsNone(cut_with(chain, 1).marked)

    def test_a_wind_directly_on_a_mark(self):
        chain = self.chain(20, 30)
        under = cut_under(chain, 1)
        self.assertIsNone(under.top)
        self.assertEqual(under.marked.birth, 20)


class Long(unittest.TestCase):
    def test_thousands_of_frames(self):
        frames = tuple(range(1, 9001))
        for step in (1, 2, 3, 7):
            things = {birth: ("mark",) if birth % 5 == 0 else ("wind", 1, 2) if birth % step == 0 else ("wait", 0, ()) for birth in frames}
            chain = chain_of(frames, things)
            self.assertEqual(chain_frames(chain), tuple((birth, things[birth]) for birth in frames))
            winds = winds_of(frames, things)
            self.assertEqual(common_winds(chain, chain_of(frames[:4000], things)), len(winds_of(frames[:4000], things)))
            for number in (1, 2, len(winds) // 2, len(winds)):
                self.assertEqual(births_in(cut_under(chain, number)), frames[:winds[number - 1][0]])
                self.assertEqual(births_in(cut_with(chain, number)), frames[:winds[number - 1][0] + 1])

    def test_roads_that_name_one_another(self):
        # Each way frame's road leads to a rest with the way frame before it, thousands of times.
        things = {1: ("wait", 0, ())}
        for birth in range(2, 3002):
            things[birth] = ("way", ("to", (1, birth - 1) if birth > 2 else (1,), 0), GIVE)
        chain = chain_of((1, 3001), things)
        self.assertEqual(chain_frames(chain), ((1, things[1]), (3001, things[3001])))
        deep = 0
        while chain.top.word == "way":
            chain = chain.top.detail[0][1]
            deep += 1
        self.assertEqual(deep, 3000)

    def test_roads_on_within_one_another(self):
        things = {}
        for number in range(2000):
            things[3 * number + 1] = ("wind", number, number)
            things[3 * number + 2] = ("way", ("on", (3 * number + 1,) if number == 0 else (3 * number + 1, 3 * number - 1)), GIVE)
        last = 3 * 1999 + 2
        chain = chain_of((last,), things)
        self.assertEqual(chain_frames(chain), ((last, things[last]),))
        number = 0
        link = chain.top
        while link.word == "way":
            number += 1
            self.assertEqual(link.detail[0][2], number)
            link = link.detail[0][1]
        self.assertEqual(number, 2000)


if __name__ == "__main__":
    unittest.main()
