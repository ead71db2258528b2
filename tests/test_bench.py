"""bench.py: [16.8] to [16.12]."""

import random
import unittest

from makeplans import good_plan
from makeprograms import good_tree
from test_runs import BAD_COUNTS, BAD_KINDS, COUNTING, LOOP, NO_CALL
from writtenprograms import TEXTS

from goonagain.bench import Account, Bench, Trial, check_deeds, conduct
from goonagain.catching import catching_shown, catching_text
from goonagain.choices import choices_shown, choices_text
from goonagain.cuts import Shelf
from goonagain.errors import BadAsks, BadCount, BadDeed, BadKind
from goonagain.hands import hands_shown, hands_text
from goonagain.machine import run_seen
from goonagain.makers import makers_shown, makers_text
from goonagain.meaning import KINDS, made_machine
from goonagain.program import Program
from goonagain.runs import Leg

GOOD_DEEDS = (("go", 0), ("go", 1), ("go", 10 ** 18), ("finish",), ("keep",), ("back",), ("cut", 0, "plain"), ("cut", 10 ** 18, "jump")) + tuple(
    ("hand", kind) for kind in KINDS)
ALL_SHOWN = run_seen(made_machine("plain", COUNTING)).shows


class Model:
    """What [16.9] and [16.12] say of a bench, by the calls of the plain run and whether it ended with no fuel."""

    def __init__(self, calls, fuel_ended, kind):
        self.last, self.fuel_ended = calls, fuel_ended
        self.at, self.ended, self.kind = 0, calls == 0 and not fuel_ended, kind
        self.idle = self.ended
        self.shelf = None if self.idle else [0]
        self.history = []
        self.legs = [[kind, 1, 0]]
        self.farthest = 0

    def deed(self, deed):
        return getattr(self, deed[0])(*deed[1:])

    def note(self):
        self.history.append((self.at, self.ended, self.kind, list(self.shelf)))

    def begin(self, kind, at, ended):
        self.kind, self.at, self.ended = kind, at, ended
        self.legs.append([kind, at + 1, at])

    def moved(self, many):
        steps = min(many, self.last - self.at)
        self.ended = self.at + many > self.last if self.fuel_ended else self.at + many >= self.last
        self.at += steps
        self.legs[-1][2] = self.at
        self.farthest = max(self.farthest, self.at)

    def go(self, many=1):
        if self.ended or many == 0:
            return False
        self.note()
        self.moved(many)
        return True

    def finish(self):
        return self.go(10 ** 30)

    def hand(self, kind):
        if self.ended:
            return False
        self.note()
        self.begin(kind, self.at, False)
        return True

    def keep(self):
        if self.ended:
            return False
        self.note()
        self.shelf.append(self.at)
        return True

    def cut(self, lost=0, kind="plain"):
        if self.idle:
            return False
        self.note()
        self.shelf = self.shelf[:max(1, len(self.shelf) - lost)]
        self.begin(kind, self.shelf[-1], False)
        return True

    def back(self):
        if not self.history:
            return False
        at, ended, kind, shelf = self.history.pop()
        self.begin(kind, at, ended)
        self.shelf = shelf
        return True

    def told(self):
        return (self.at, self.ended, self.kind, self.shelf, self.legs, sum(leg[2] - leg[1] + 1 for leg in self.legs))


def told(bench):
    return (bench.stands_at, bench.ended is not None, bench.carried_by, None if bench.shelf is None else [kept.calls for kept in bench.shelf],
            [[leg.kind, leg.first, leg.last] for leg in bench.legs], bench.performed)


def random_deeds(chance, many=12):
    deeds = []
    for _ in range(chance.randint(0, many)):
        deeds.append(chance.choice((
            ("go", chance.choice((0, 1, 1, 2, 3, 5))), ("go", chance.randint(0, 9)), ("hand", chance.choice(KINDS)), ("keep",), ("keep",),
            ("cut", chance.choice((0, 0, 1, 2, 9)), chance.choice(KINDS)), ("back",), ("back",), ("go", 10 ** 18) if chance.random() < 0.1 else ("go", 1),
            ("finish",) if chance.random() < 0.3 else ("go", 2))))
    return deeds


class Beside(unittest.TestCase):
    """A bench beside the model, and beside the plain machine."""

    def beside(self, program, asks, fuel, deeds, kind):
        plain = made_machine("plain", program, asks, fuel)
        shown = [len(plain.shown)]
        while plain.outcome is None:
            plain.advance()
            shown.append(len(plain.shown))
        bench, model = Bench(program, asks, kind=kind, fuel=fuel), Model(plain.calls, plain.outcome == ("fuel",), kind)
        before = 0
        for number, deed in enumerate(deeds):
            self.assertEqual(told(bench), model.told(), deeds[:number])
            # What was seen is a beginning, never shorter, and all of it at an outcome.
            self.assertEqual(bench.seen, plain.shown[:len(bench.seen)])
            self.assertEqual(len(bench.seen), shown[min(model.farthest, len(shown) - 1)])
            self.assertGreaterEqual(len(bench.seen), before)
            before = len(bench.seen)
            if bench.ended is not None:
                self.assertEqual((bench.seen, bench.ended, bench.stands_at), (plain.shown, plain.outcome, plain.calls))
            if bench.shelf is not None:
                for kept in bench.shelf:
                    self.assertEqual(kept.told, shown[kept.calls])
            if number % 3 == 0:
                self.tried(bench, model, deeds[number:])
            self.assertEqual(bench.perform(deed), (model.deed(deed),), deeds[:number + 1])
        self.assertEqual(told(bench), model.told())
        account = conduct(program, asks, deeds, kind=kind, fuel=fuel)
        due = Model(plain.calls, plain.outcome == ("fuel",), kind)
        done = tuple(due.deed(deed) for deed in deeds)
        due.finish()
        self.assertEqual((account.shows, account.end, account.calls), (plain.shown, plain.outcome, plain.calls))
        self.assertEqual((account.work, [[leg.kind, leg.first, leg.last] for leg in account.legs_done], account.done), (due.told()[5], due.legs, done))
        return account

    def tried(self, bench, model, deeds):
        """A trial tells what deeds would do on a bench that stands alike and has an empty history, and changes nothing."""
        before, seen, shelf = told(bench), bench.seen, bench.shelf
        trial = bench.trial(deeds)
        self.assertEqual((told(bench), bench.seen), (before, seen))
        self.assertIs(bench.shelf, shelf)
        alike = Model(model.last, model.fuel_ended, model.kind)
        alike.at, alike.ended, alike.shelf = model.at, model.ended, None if model.shelf is None else list(model.shelf)
        done = tuple(alike.deed(deed) for deed in deeds)
        self.assertEqual((trial.done, trial.calls, trial.end is not None), (done, alike.at, alike.ended))
        self.assertIsInstance(trial.news, tuple)
        other = Bench(bench._present_run.program, bench._present_run.machine.asks, fuel=bench._present_run.machine.fuel)
        other.finish()
        self.assertEqual(seen + trial.news, other.seen[:len(seen + trial.news)])

    def test_written_programs(self):
        for seed, text in enumerate(TEXTS * 3):
            chance = random.Random(seed)
            self.beside(Program(text), (1, 2), chance.choice((0, 2, 5, 40)), random_deeds(chance), chance.choice(KINDS))

    def test_random_programs(self):
        work = 0
        for seed in range(300):
            tree = good_tree(seed, deep=6, gentle=seed % 3 > 0)
            if tree is not None:
                chance = random.Random(seed)
                account = self.beside(Program.of_tree(tree), (3,), chance.choice((1, 4, 30)), random_deeds(chance, 16), chance.choice(KINDS))
                work += account.work
        self.assertGreater(work, 1000)

    def test_many_rows_of_deeds(self):
        for seed in range(250):
            chance = random.Random(seed)
            self.beside(COUNTING, (), chance.choice((0, 3, 5, 6, 7, 2000)), random_deeds(chance, 20), chance.choice(KINDS))

    def test_recipes_under_cuts(self):
        """[15.3]."""
        for recipe, text_of, shown_of in (("choices", choices_text, choices_shown), ("choices", lambda plan: choices_text(plan, whole=True), choices_shown),
                                          ("makers", makers_text, makers_shown), ("catching", catching_text, catching_shown), ("hands", hands_text, hands_shown)):
            for seed in range(12):
                chance = random.Random(seed)
                plan = good_plan(recipe, seed + 900, 0.9)
                account = self.beside(Program(text_of(plan)), (), 2000, random_deeds(chance, 25), chance.choice(KINDS))
                if account.end == ("end",):
                    self.assertEqual(account.shows, shown_of(plan))


class Deeds(unittest.TestCase):
    def test_check_deeds(self):
        self.assertIsNone(check_deeds([]))
        self.assertIsNone(check_deeds(()))
        self.assertIsNone(check_deeds(list(GOOD_DEEDS)))
        self.assertIsNone(check_deeds(GOOD_DEEDS))

    def bad(self):
        yield from ((), "go", None, 1, ["go", 1], ("Go", 1), ("",), (1,), (None,), (["go"], 1), ("no",), ("take_back",), ("seen",), (("go",), 1))
        yield from (("go",), ("go", 1, 2), ("finish", 1), ("hand",), ("hand", "plain", 1), ("keep", None), ("cut",), ("cut", 0), ("cut", 0, "plain", 1), ("cut", "plain"),
                    ("cut", "plain", 0), ("back", 1), ("hand", 0))
        yield from (("go", many) for many in BAD_COUNTS)
        yield from (("cut", many, "plain") for many in BAD_COUNTS)
        yield from (("hand", kind) for kind in BAD_KINDS)
        yield from (("cut", 0, kind) for kind in BAD_KINDS)

    def test_bad_deeds(self):
        bench = Bench(COUNTING)
        bench.perform(("go", 2), ("keep",), ("go", 1))
        before, seen = told(bench), bench.seen
        for number, bad in enumerate(self.bad()):
            at = number % 4
            deeds = [("go", 1), ("keep",), ("finish",)][:at] + [bad, ("no",)]
            for call in (lambda: check_deeds(deeds), lambda: check_deeds(tuple(deeds)), lambda: bench.perform(*deeds), lambda: bench.trial(deeds), lambda: conduct(COUNTING, (), deeds),
                         lambda: conduct(COUNTING, None, deeds, kind="no"), lambda: Bench(NO_CALL).perform(*deeds), lambda: Bench(NO_CALL).trial(deeds)):
                with self.assertRaises(BadDeed) as caught:
                    call()
                self.assertEqual(caught.exception.index, at, bad)
            self.assertEqual((told(bench), bench.seen), (before, seen))

    def test_perform(self):
        bench = Bench(COUNTING)
        self.assertEqual(bench.perform(), ())
        self.assertEqual(bench.perform(("go", 0), ("go", 2), ("hand", "jump"), ("keep",), ("finish",), ("go", 1), ("keep",), ("hand", "pile"), ("cut", 0, "pieces"), ("back",), ("back",)),
                         (False, True, True, True, True, False, False, False, True, True, True))
        self.assertEqual((bench.stands_at, bench.ended, bench.carried_by), (2, None, "jump"))
        self.assertEqual(bench.legs, (Leg("plain", 1, 2), Leg("jump", 3, 6), Leg("pieces", 3, 2), Leg("jump", 7, 6), Leg("jump", 3, 2)))


class Benches(unittest.TestCase):
    def test_made(self):
        for kind in KINDS:
            bench = Bench(COUNTING, [7], kind=kind, fuel=5)
            self.assertIsInstance(bench.shelf, Shelf)
            self.assertEqual([(kept.calls, kept.told) for kept in bench.shelf], [(0, 1)])
            self.assertEqual((bench.seen, bench.legs, bench.performed, bench.stands_at, bench.carried_by, bench.ended), (("0",), (Leg(kind, 1, 0),), 0, 0, kind, None))
        self.assertEqual(Bench(COUNTING).carried_by, "plain")

    def test_errors_of_run(self):
        for kind in BAD_KINDS:
            for call in (lambda: Bench(LOOP, None, kind=kind), lambda: conduct(LOOP, None, (), kind=kind)):
                with self.assertRaises(BadKind) as caught:
                    call()
                self.assertEqual(caught.exception.kind, kind)
        for call in (lambda: Bench(LOOP, [True], kind="pile"), lambda: conduct(LOOP, [True], [("go", 1)])):
            with self.assertRaises(BadAsks) as caught:
                call()
            self.assertEqual(caught.exception.index, 0)

    def test_by_keyword_alone(self):
        self.assertRaises(TypeError, Bench, LOOP, (), "pile")
        self.assertRaises(TypeError, conduct, LOOP, (), (), "pile")

    def test_two_thousand_calls_by_default(self):
        bench = Bench(LOOP, [0])
        bench.finish()
        self.assertEqual((bench.stands_at, bench.ended, len(bench.seen)), (2000, ("fuel",), 2000))
        account = conduct(LOOP, [0], [("go", 1500), ("keep",), ("go", 300), ("cut", 0, "jump")])
        self.assertEqual((account.calls, account.end, account.work, len(account.shows)), (2000, ("fuel",), 2300, 2000))

    def test_go(self):
        bench = Bench(COUNTING)
        self.assertIs(bench.go(0), False)
        self.assertIs(bench.go(), True)
        self.assertIs(bench.go(many=2), True)
        self.assertEqual((bench.stands_at, len(bench.seen)), (3, 7))
        self.assertIs(bench.go(10 ** 18), True)
        self.assertIs(bench.go(1), False)
        self.assertEqual((bench.stands_at, bench.ended, bench.seen), (6, ("end",), ALL_SHOWN))

    def test_go_at_the_last_fuel(self):
        bench = Bench(LOOP, [1], fuel=2)
        self.assertEqual((bench.go(2), bench.ended, bench.keep(), bench.hand("pile")), (True, None, True, True))
        # No call is performed, but the outcome is come to.
        self.assertEqual((bench.go(0), bench.go(1), bench.ended, bench.performed, bench.go(1)), (False, True, ("fuel",), 2, False))
        self.assertEqual((bench.take_back(), bench.ended, bench.stands_at, bench.finish(), bench.ended), (True, None, 2, True, ("fuel",)))

    def test_finish_hand_keep(self):
        bench = Bench(COUNTING)
        self.assertIs(bench.hand("jump"), True)
        self.assertEqual(bench.carried_by, "jump")
        bench.go(2)
        self.assertIs(bench.keep(), True)
        self.assertIs(bench.keep(), True)
        self.assertEqual([kept.calls for kept in bench.shelf], [0, 2, 2])
        self.assertIs(bench.finish(), True)
        for deed in (bench.finish, bench.keep, lambda: bench.hand("pile"), bench.go):
            before = told(bench)
            self.assertIs(deed(), False)
            self.assertEqual(told(bench), before)

    def test_cut(self):
        bench = Bench(COUNTING)
        bench.perform(("go", 1), ("keep",), ("go", 1), ("keep",), ("go", 2))
        self.assertIs(bench.cut(), True)
        self.assertEqual((bench.stands_at, bench.carried_by, len(bench.seen), [kept.calls for kept in bench.shelf]), (2, "plain", 9, [0, 1, 2]))
        self.assertIs(bench.cut(1, "jump"), True)
        self.assertEqual((bench.stands_at, bench.carried_by, [kept.calls for kept in bench.shelf]), (1, "jump", [0, 1]))
        self.assertIs(bench.cut(lost=10 ** 18, kind="pile"), True)
        self.assertEqual((bench.stands_at, bench.carried_by, [kept.calls for kept in bench.shelf]), (0, "pile", [0]))
        bench.finish()
        self.assertEqual((bench.seen, bench.performed), (ALL_SHOWN, 4 + 6))
        # At an outcome, too.
        self.assertIs(bench.cut(0, "pieces"), True)
        self.assertEqual((bench.ended, bench.stands_at, bench.seen), (None, 0, ALL_SHOWN))

    def test_errors(self):
        for calls in (2, 99):
            for program in (COUNTING, NO_CALL):
                bench = Bench(program)
                bench.go(calls)
                before, seen = told(bench), bench.seen
                for many in BAD_COUNTS:
                    for call in (lambda: bench.go(many), lambda: bench.cut(many), lambda: bench.cut(many, "no")):
                        with self.assertRaises(BadCount) as caught:
                            call()
                        self.assertIs(caught.exception.many, many)
                for kind in BAD_KINDS:
                    for call in (lambda: bench.hand(kind), lambda: bench.cut(1, kind), lambda: bench.cut(0, kind=kind)):
                        with self.assertRaises(BadKind) as caught:
                            call()
                        self.assertEqual(caught.exception.kind, kind)
                self.assertEqual((told(bench), bench.seen), (before, seen))
                # Nothing of it can be taken back.
                if program == COUNTING:
                    self.assertEqual((bench.take_back(), bench.stands_at, bench.take_back()), (True, 0, False))

    def test_idle(self):
        for kind in KINDS:
            bench = Bench(NO_CALL, kind=kind)
            self.assertIsNone(bench.shelf)
            for deed in (bench.go, lambda: bench.go(0), lambda: bench.go(9), bench.finish, lambda: bench.hand("pile"), bench.keep, bench.cut, lambda: bench.cut(3, "jump"), bench.take_back):
                self.assertIs(deed(), False)
            self.assertEqual((bench.seen, bench.legs, bench.performed, bench.stands_at, bench.carried_by, bench.ended), (("2", "3"), (Leg(kind, 1, 0),), 0, 0, kind, ("end",)))
            self.assertEqual(bench.perform(*GOOD_DEEDS), (False,) * len(GOOD_DEEDS))
            trial = bench.trial(GOOD_DEEDS)
            self.assertEqual((trial.news, trial.end, trial.calls, trial.done), ((), ("end",), 0, (False,) * len(GOOD_DEEDS)))
            account = conduct(NO_CALL, (), GOOD_DEEDS, kind=kind)
            self.assertEqual((account.shows, account.end, account.calls, account.work, account.legs_done, account.done),
                             (("2", "3"), ("end",), 0, 0, (Leg(kind, 1, 0),), (False,) * len(GOOD_DEEDS)))
        # A fault ahead of the first call; no fuel is no such outcome.
        self.assertIsNone(Bench(Program("(left 1)")).shelf)
        self.assertIsNotNone(Bench(LOOP, fuel=0).shelf)


class TakingBack(unittest.TestCase):
    def test_each_deed(self):
        for deed in (("go", 2), ("go", 99), ("finish",), ("hand", "jump"), ("keep",), ("cut", 0, "pieces"), ("cut", 2, "jump")):
            bench = Bench(COUNTING, kind="pile")
            bench.perform(("go", 1), ("keep",), ("go", 1))
            before = told(bench)
            seen = len(bench.seen)
            self.assertEqual(bench.perform(deed), (True,))
            after = told(bench)
            news = len(bench.seen)
            self.assertIs(bench.take_back(), True)
            back = told(bench)
            # The standing, the kind and the shelf are those of before; legs, work and what was seen stay.
            self.assertEqual(back[:4], before[:4])
            self.assertEqual(back[4], after[4] + [["pile", 3, 2]])
            self.assertEqual((back[5], len(bench.seen)), (after[5], news))
            self.assertGreaterEqual(news, seen)
            # From there it goes on as from before.
            bench.finish()
            self.assertEqual((bench.seen, bench.ended, bench.stands_at), (ALL_SHOWN, ("end",), 6))

    def test_deeds_that_returned_false_are_no_deeds(self):
        bench = Bench(COUNTING)
        bench.perform(("go", 1), ("go", 0), ("finish",), ("finish",), ("keep",), ("hand", "jump"), ("go", 3))
        self.assertEqual((bench.take_back(), bench.stands_at), (True, 1))
        self.assertEqual((bench.take_back(), bench.stands_at), (True, 0))
        self.assertEqual((bench.take_back(), bench.stands_at), (False, 0))

    def test_several_times(self):
        bench = Bench(COUNTING)
        kept = [told(bench)[:4]]
        deeds = (("go", 1), ("keep",), ("hand", "jump"), ("go", 2), ("keep",), ("cut", 1, "pile"), ("go", 1), ("keep",), ("finish",), ("cut", 0, "pieces"), ("keep",))
        for deed in deeds:
            self.assertEqual(bench.perform(deed), (True,))
            kept.append(told(bench)[:4])
        for number in range(len(deeds) - 1, -1, -1):
            legs = len(bench.legs)
            self.assertIs(bench.take_back(), True)
            self.assertEqual(told(bench)[:4], kept[number])
            self.assertEqual(len(bench.legs), legs + 1)
            self.assertEqual(bench.seen, ALL_SHOWN)
        self.assertIs(bench.take_back(), False)
        self.assertEqual(bench.finish(), True)
        self.assertEqual(bench.seen, ALL_SHOWN)

    def test_taking_back_is_no_deed(self):
        bench = Bench(COUNTING)
        bench.perform(("go", 1), ("go", 1), ("back",), ("go", 3), ("back",))
        self.assertEqual((bench.stands_at, bench.take_back(), bench.stands_at, bench.take_back()), (1, True, 0, False))

    def test_back_to_an_outcome(self):
        for kind in KINDS:
            for program, fuel, end in ((COUNTING, 2000, ("end",)), (COUNTING, 4, ("fuel",)), (Program("(do ((fn () 1)) (left 2))"), 9, ("fault", "kind"))):
                bench = Bench(program, kind=kind, fuel=fuel)
                bench.finish()
                calls, seen = bench.stands_at, bench.seen
                bench.cut(0, "jump")
                bench.go(1)
                self.assertEqual((bench.take_back(), bench.take_back()), (True, True))
                self.assertEqual((bench.ended, bench.stands_at, bench.carried_by, bench.seen), (end, calls, kind, seen))
                # Its leg has no calls.
                self.assertEqual(bench.legs[-1], Leg(kind, calls + 1, calls))
                self.assertEqual((bench.go(5), bench.keep(), bench.legs[-1]), (False, False, Leg(kind, calls + 1, calls)))
                self.assertEqual(bench.performed, calls + 1)
                # The deed before was finish.
                self.assertEqual((bench.take_back(), bench.ended, bench.stands_at), (True, None, 0))

    def test_shelf_comes_back(self):
        bench = Bench(COUNTING)
        bench.perform(("go", 1), ("keep",), ("go", 1), ("keep",))
        row = bench.shelf.all_kept()
        bench.cut(2, "jump")
        self.assertEqual(len(bench.shelf.all_kept()), 1)
        bench.take_back()
        self.assertEqual(bench.shelf.all_kept(), row)
        bench.take_back()
        self.assertEqual(bench.shelf.all_kept(), row[:2])


class Trials(unittest.TestCase):
    def test_what_they_keep(self):
        trial, account = Trial(1, 2, 3, 4), Account(1, 2, 3, 4, 5, 6)
        self.assertEqual((trial.news, trial.end, trial.calls, trial.done), (1, 2, 3, 4))
        self.assertEqual((account.shows, account.end, account.calls, account.work, account.legs_done, account.done), (1, 2, 3, 4, 5, 6))

    def trial(self, bench, deeds, *due):
        before, seen, shelf = told(bench), bench.seen, bench.shelf.all_kept()
        trial = bench.trial(deeds)
        self.assertEqual((trial.news, trial.end, trial.calls, trial.done), due)
        self.assertEqual((told(bench), bench.seen, bench.shelf.all_kept()), (before, seen, shelf))

    def test_trials(self):
        bench = Bench(COUNTING)
        bench.perform(("go", 2), ("keep",))
        self.trial(bench, [], (), None, 2, ())
        self.trial(bench, (("go", 1),), ("3", "13"), None, 3, (True,))
        self.trial(bench, [("go", 1), ("cut", 0, "jump"), ("go", 2)], ("3", "13", "4", "14"), None, 4, (True, True, True))
        self.trial(bench, [("finish",), ("go", 1), ("keep",)], ("3", "13", "4", "14", "5", "15", "99"), ("end",), 6, (True, False, False))
        # Its history is empty, its shelf is that of the bench.
        self.trial(bench, [("back",), ("go", 1), ("back",), ("back",)], ("3", "13"), None, 2, (False, True, True, False))
        self.trial(bench, [("cut", 1, "pile"), ("go", 1)], (), None, 1, (True, True))
        self.trial(bench, [("cut", 0, "pile"), ("go", 1)], ("3", "13"), None, 3, (True, True))
        # What the bench has seen already is no news, wherever it stands.
        bench.perform(("go", 2), ("cut", 0, "jump"))
        self.trial(bench, [("go", 3)], ("5", "15"), None, 5, (True,))
        bench.finish()
        self.trial(bench, [("go", 3), ("hand", "pile"), ("keep",)], (), ("end",), 6, (False, False, False))
        self.trial(bench, [("cut", 0, "plain"), ("finish",), ("back",), ("back",), ("back",)], (), ("end",), 6, (True, True, True, True, False))

    def test_a_trial_leaves_the_history(self):
        bench = Bench(COUNTING)
        bench.go(2)
        bench.trial([("go", 1), ("back",), ("keep",)])
        self.assertEqual((bench.take_back(), bench.stands_at, bench.take_back()), (True, 0, False))

    def test_fuel_and_asks(self):
        bench = Bench(LOOP, [5], kind="jump", fuel=3)
        bench.go(1)
        self.trial(bench, [("go", 2)], ("6", "7"), None, 3, (True,))
        self.trial(bench, [("go", 9)], ("6", "7"), ("fuel",), 3, (True,))


class Conduct(unittest.TestCase):
    def test_written(self):
        account = conduct(COUNTING, (), [("go", 2), ("keep",), ("hand", "pile"), ("go", 2), ("cut", 0, "jump"), ("go", 1), ("back",), ("back",), ("keep",), ("go", 0)], kind="pieces")
        self.assertIsInstance(account, Account)
        self.assertEqual((account.shows, account.end, account.calls), (ALL_SHOWN, ("end",), 6))
        self.assertEqual(account.done, (True,) * 9 + (False,))
        # pieces 1-2, pile 3-4, jump 3, back to jump at 2, back to pile at 4, and on to the end.
        self.assertEqual(account.legs_done, (Leg("pieces", 1, 2), Leg("pile", 3, 4), Leg("jump", 3, 3), Leg("jump", 3, 2), Leg("pile", 5, 6)))
        self.assertEqual(account.work, 7)

    def test_no_deeds(self):
        account = conduct(LOOP, [2], (), fuel=3)
        self.assertEqual((account.shows, account.end, account.calls, account.work, account.legs_done, account.done), (("2", "3", "4"), ("fuel",), 3, 3, (Leg("plain", 1, 3),), ()))

    def test_one_end_alone_matters(self):
        # Two programs with as many calls: the same deeds do the same.
        other = Program("(rec ((f (fn (n) (if (< n 6) (+ 0 (f (+ n 1))) none)))) (left (do (f 1) 1)))")
        self.assertEqual(run_seen(made_machine("plain", other)).end, ("fault", "kind"))
        for seed in range(40):
            deeds = random_deeds(random.Random(seed), 15)
            one, two = conduct(COUNTING, (), deeds), conduct(other, (5,), deeds)
            self.assertEqual((one.calls, one.work, one.legs_done, one.done), (two.calls, two.work, two.legs_done, two.done))


if __name__ == "__main__":
    unittest.main()
