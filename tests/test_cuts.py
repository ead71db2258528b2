"""cuts.py: [16.7]."""

import unittest

from test_runs import BAD_COUNTS, COUNTING, LOOP, NO_CALL

from goonagain.cuts import Kept, Shelf, kept_standing
from goonagain.errors import BadCount, BadKept
from goonagain.meaning import KINDS
from goonagain.readstand import read_standing
from goonagain.runs import Run

A, B, C, D = Kept(0, 0, "a"), Kept(3, 1, "b"), Kept(3, 1, "c"), Kept(9, 0, "d")


class Keeping(unittest.TestCase):
    def test_equal_by_all_three(self):
        self.assertEqual((B.calls, B.told, B.text), (3, 1, "b"))
        self.assertEqual(B, Kept(3, 1, "b"))
        for other in (Kept(4, 1, "b"), Kept(3, 2, "b"), Kept(3, 1, "c"), (3, 1, "b"), None):
            self.assertNotEqual(B, other)

    def test_kept_standing(self):
        for kind in KINDS:
            run = Run(COUNTING, kind=kind)
            for calls in range(6):
                kept = kept_standing(run)
                self.assertIsInstance(kept, Kept)
                self.assertEqual((kept.calls, kept.told, kept.text), (calls, 2 * calls + 1, run.written()))
                self.assertEqual(read_standing(kept.text).shown, kept.told)
                if calls == 3:
                    run.hand("jump")
                    self.assertEqual(kept_standing(run), kept)
                run.go()
            self.assertIsNone(kept_standing(run))
        self.assertIsNone(kept_standing(Run(NO_CALL)))

    def test_told_of_a_run_that_went_back(self):
        run = Run(COUNTING)
        text = run.written()
        run.go(4)
        run.settle(text, "pile")
        run.go(1)
        # The run has seen 9 texts; the program has told 3 up to here.
        self.assertEqual((len(run.seen), kept_standing(run).told, kept_standing(run).calls), (9, 3, 1))

    def test_at_the_last_fuel(self):
        run = Run(LOOP, [1], fuel=2)
        run.go(2)
        self.assertEqual((kept_standing(run).calls, kept_standing(run).told), (2, 2))
        run.go(1)
        self.assertIsNone(kept_standing(run))


class Shelves(unittest.TestCase):
    def shelf(self, *rest):
        shelf = Shelf(A)
        for kept in rest:
            self.assertIsNone(shelf.put(kept))
        return shelf

    def test_first(self):
        shelf = Shelf(B)
        self.assertEqual((shelf.latest(), shelf.all_kept(), list(shelf)), (B, (B,), [B]))

    def test_put(self):
        shelf = self.shelf(B, C, D, D)
        self.assertIs(shelf.latest(), D)
        self.assertEqual(shelf.all_kept(), (A, B, C, D, D))
        self.assertIsInstance(shelf.all_kept(), tuple)
        self.assertEqual([kept.text for kept in shelf], ["a", "b", "c", "d", "d"])
        self.assertEqual([kept.text for kept in shelf], ["a", "b", "c", "d", "d"])
        self.assertTrue(C in list(shelf))

    def test_bad_kept(self):
        shelf = self.shelf(B)
        for calls in (2, 0, -1):
            with self.assertRaises(BadKept) as caught:
                shelf.put(Kept(calls, 99, "x"))
            self.assertEqual(caught.exception.calls, calls)
            self.assertEqual(shelf.all_kept(), (A, B))
        # Calls alone are looked at.
        shelf.put(Kept(3, 0, ""))
        self.assertEqual(len(shelf.all_kept()), 3)

    def test_lose(self):
        shelf = self.shelf(B, C, D)
        self.assertEqual((shelf.lose(0), shelf.all_kept()), (0, (A, B, C, D)))
        self.assertEqual((shelf.lose(1), shelf.all_kept()), (1, (A, B, C)))
        self.assertEqual((shelf.lose(2), shelf.all_kept(), shelf.latest()), (2, (A,), A))
        self.assertEqual((shelf.lose(1), shelf.all_kept()), (0, (A,)))
        shelf = self.shelf(B, C, D)
        self.assertEqual((shelf.lose(10 ** 18), list(shelf)), (3, [A]))
        shelf = self.shelf(B, C, D)
        self.assertEqual((shelf.lose(3), list(shelf)), (3, [A]))
        shelf = self.shelf(B, C, D)
        self.assertEqual((shelf.lose(4), list(shelf)), (3, [A]))
        self.assertEqual((shelf.lose(0), shelf.lose(7)), (0, 0))
        shelf.put(B)
        self.assertEqual(shelf.all_kept(), (A, B))

    def test_bad_count(self):
        shelf = self.shelf(B)
        for many in BAD_COUNTS:
            with self.assertRaises(BadCount) as caught:
                shelf.lose(many)
            self.assertIs(caught.exception.many, many)
            self.assertEqual(shelf.all_kept(), (A, B))

    def test_what_was_told_stays(self):
        shelf = self.shelf(B)
        row = shelf.all_kept()
        shelf.put(D)
        shelf.lose(1)
        shelf.lose(1)
        self.assertEqual(row, (A, B))


if __name__ == "__main__":
    unittest.main()
