"""recipes.py: [15.1], [15.2], [15.10]."""

import unittest

from makeplans import good_plan

from goonagain.catching import catching_shown, catching_text
from goonagain.choices import choices_shown, choices_text
from goonagain.errors import BadMost, BadPlan
from goonagain.hands import hands_shown, hands_text
from goonagain.makers import makers_shown, makers_text
from goonagain.recipes import check_plan

FUNCTIONS = {
    "choices": (choices_text, lambda plan: choices_text(plan, whole=True), choices_shown),
    "makers": (makers_text, makers_shown, lambda plan: makers_text(plan, 0), lambda plan: makers_shown(plan, most=True)),
    "catching": (catching_text, catching_shown), "hands": (hands_text, hands_shown),
}
IS, GIVE, SAY, AWAY = ("is", 1), ("give", 1), ("say", 1), ("away",)
NO_NUMBERS = (100, -100, 10 ** 9, True, False, None, "1", (1,), [1], 1.0)
NO_COUNTS = (-1, 5, 99, True, False, None, "1", (), 1.0)


class Plans(unittest.TestCase):
    def good(self, plan, recipe):
        self.assertIsNone(check_plan(plan, recipe))

    def bad(self, place, plan, recipe):
        for call in (lambda: check_plan(plan, recipe),) + tuple((lambda one=one: one(plan)) for one in FUNCTIONS[recipe]):
            with self.assertRaises(BadPlan) as caught:
                call()
            self.assertEqual(caught.exception.place, place, plan)


class Parts(Plans):
    def test_each_part(self):
        for plan in (IS, ("sum", IS, IS), ("pick", IS), ("pick", IS, IS), ("pick", IS, IS, IS), ("pick", IS, IS, IS, IS), ("under", IS, 3)):
            self.good(plan, "choices")
        for plan in (GIVE, ("both", GIVE, GIVE), ("again", 3, GIVE), ("within", 5, GIVE)):
            self.good(plan, "makers")
        for plan in (SAY, ("throw", 2), ("both", SAY, SAY), ("within", 1, SAY), ("catch", SAY, SAY), ("loop", 2, SAY), ("loop", 1, ("leave",))):
            self.good(plan, "catching")
        for plan in (((),), ((SAY,),), ((AWAY,), (("new", ()), ("within", 3, ()))), ((), (), (), ()), ((SAY,) * 8,)):
            self.good(plan, "hands")

    def test_no_part(self):
        for recipe in ("choices", "makers", "catching"):
            for plan in ((), None, 1, True, "is", ["is", 1], [], ("",), ("no", 1), (1,), (None, 1), (("is", 1),), (["is"], 1), ("is ", 1), ({}, 1), (True, 1)):
                self.bad((), plan, recipe)
        # Words of other recipes.
        for plan in (GIVE, SAY, ("both", IS, IS), ("again", 1, IS), AWAY, ("leave",)):
            self.bad((), plan, "choices")
        for plan in (IS, SAY, ("sum", GIVE, GIVE), ("pick", GIVE), ("throw", 1), ("catch", GIVE, GIVE), ("loop", 1, GIVE), AWAY):
            self.bad((), plan, "makers")
        for plan in (IS, GIVE, ("again", 1, SAY), ("under", SAY, 1), AWAY, ("new", ())):
            self.bad((), plan, "catching")
        for step in (IS, GIVE, ("both", SAY, SAY), ("leave",), ("throw", 1), ("again", 1, ())):
            self.bad((0, 0), ((step,),), "hands")

    def test_counts_of_items(self):
        for plan in (("is",), ("is", 1, 2), ("sum",), ("sum", IS), ("sum", IS, IS, IS), ("pick",), ("pick", IS, IS, IS, IS, IS), ("under",), ("under", IS), ("under", IS, 1, 1)):
            self.bad((), plan, "choices")
        for plan in (("give",), ("give", 1, 1), ("both", GIVE), ("both", GIVE, GIVE, GIVE), ("again", 1), ("again", 1, GIVE, GIVE), ("within", 1), ("within", 1, GIVE, 1)):
            self.bad((), plan, "makers")
        for plan in (("say",), ("say", 1, 1), ("throw",), ("throw", 1, 1), ("both", SAY), ("within", 1), ("within", 1, SAY, SAY), ("catch", SAY), ("catch", SAY, SAY, SAY), ("loop", 1),
                     ("loop", SAY), ("loop", 1, SAY, SAY)):
            self.bad((), plan, "catching")
        self.bad((2,), ("loop", 1, ("leave", 1)), "catching")
        for step in (("say",), ("say", 1, 1), ("away", 1), ("away", ()), ("new",), ("new", (), ()), ("within", 1), ("within", ()), ("within", 1, (), ()), (), ("",), 1, None, ["say", 1], "say",
                     (["say"], 1), (1, 1)):
            self.bad((1, 1), ((), (SAY, step)), "hands")

    def test_numbers(self):
        for number in (0, 99, -99, 1):
            self.good(("under", ("is", number), number), "choices")
            self.good(("within", number, ("give", number)), "makers")
            self.good(("within", number, ("catch", ("say", number), ("throw", number))), "catching")
            self.good(((("say", number), ("within", number, ())),), "hands")
        for number in NO_NUMBERS:
            self.bad((1,), ("is", number), "choices")
            self.bad((2,), ("under", IS, number), "choices")
            self.bad((1,), ("give", number), "makers")
            self.bad((1,), ("within", number, GIVE), "makers")
            for word in ("say", "throw"):
                self.bad((1,), (word, number), "catching")
            self.bad((1,), ("within", number, SAY), "catching")
            self.bad((0, 0, 1), ((("say", number),),), "hands")
            self.bad((0, 1, 1), ((AWAY, ("within", number, ())),), "hands")

    def test_counts(self):
        for count in range(5):
            self.good(("again", count, GIVE), "makers")
            self.good(("loop", count, SAY), "catching")
        for count in NO_COUNTS:
            self.bad((1,), ("again", count, GIVE), "makers")
            self.bad((1,), ("loop", count, SAY), "catching")

    def test_parts_within(self):
        for bad in (1, (), None, ["is", 1], ("no",), GIVE, "is"):
            self.bad((1,), ("sum", bad, IS), "choices")
            self.bad((2,), ("sum", IS, bad), "choices")
            self.bad((4,), ("pick", IS, IS, IS, bad), "choices")
            self.bad((1, 2, 1), ("under", ("pick", IS, ("sum", bad, IS)), 1), "choices")
        for bad in (1, (), ("is", 1), [GIVE]):
            self.bad((2,), ("again", 1, bad), "makers")
            self.bad((1, 2), ("both", ("within", 1, bad), GIVE), "makers")
        for bad in (1, (), ("give", 1), ("again", 1, SAY)):
            self.bad((2, 1), ("catch", SAY, ("catch", bad, SAY)), "catching")

    def test_reading_order(self):
        # A part ahead of the parts within it, items from left to right.
        self.bad((1, 1), ("sum", ("is", 100), ("is",)), "choices")
        self.bad((1,), ("sum", ("is",), ("is", 100)), "choices")
        self.bad((1, 1), ("sum", ("is", 100), ("is", 100)), "choices")
        self.bad((1, 1), ("under", ("is", 100), 100), "choices")
        self.bad((2,), ("under", IS, 100), "choices")
        self.bad((), ("under", ("is", 100)), "choices")
        self.bad((1,), ("again", 9, ("give", 100)), "makers")
        self.bad((2, 1), ("again", 4, ("give", 100)), "makers")
        self.bad((1, 1, 1), ("both", ("both", ("give", 100), 5), 5), "makers")
        self.bad((1, 2), ("both", ("both", GIVE, 5), 5), "makers")

    def test_depth(self):
        deep = ("is", 1)
        for number in range(4):
            deep = ("pick", deep)
        self.good(deep, "choices")
        self.bad((1, 1, 1, 1, 1), ("pick", deep), "choices")
        # A part that is too deep comes ahead of what is wrong with its items.
        self.bad((1, 1, 1, 1, 1), ("pick", ("pick", ("pick", ("pick", ("sum", ("is", 100), IS))))), "choices")
        self.bad((2, 2, 2, 2, 2), ("within", 1, ("within", 1, ("within", 1, ("again", 1, ("within", 1, GIVE))))), "makers")
        self.good(("within", 1, ("within", 1, ("within", 1, ("again", 1, GIVE)))), "makers")
        self.bad((1, 1, 1, 1, 1), ("both", ("both", ("both", ("both", ("both", SAY, SAY), SAY), SAY), SAY), 7), "catching")

    def test_leave(self):
        self.bad((), ("leave",), "catching")
        self.bad((1,), ("both", ("leave",), SAY), "catching")
        self.bad((2,), ("both", ("loop", 1, ("leave",)), ("leave",)), "catching")
        self.bad((2,), ("catch", SAY, ("leave",)), "catching")
        self.bad((2,), ("within", 1, ("leave",)), "catching")
        self.good(("loop", 0, ("both", ("catch", ("leave",), ("leave",)), ("within", 1, ("leave",)))), "catching")
        self.good(("loop", 1, ("within", 1, ("catch", ("both", SAY, ("leave",)), SAY))), "catching")
        # Ahead of it a wrong count of items is a fault of the same place.
        self.bad((1,), ("both", ("leave", 1), SAY), "catching")

    def test_many_parts(self):
        five = ("pick", IS, IS, IS, IS)
        self.good(("pick", five, five, five, five), "choices")
        # 21 parts so far; 24 are good, 25 are not.
        more = ("pick", five, five, five, ("pick", IS, IS, IS, ("sum", IS, IS)))
        self.good(more, "choices")
        self.good(("pick", five, five, five, ("pick", IS, IS, IS, ("pick", IS, IS, IS))), "choices")
        self.bad((), ("pick", five, five, five, ("pick", IS, IS, IS, five)), "choices")
        # It comes last of all.
        self.bad((4, 4, 4, 1), ("pick", five, five, five, ("pick", IS, IS, IS, ("pick", IS, IS, IS, ("is", 100)))), "choices")
        half = ("both", ("both", ("both", GIVE, GIVE), ("both", GIVE, GIVE)), ("both", GIVE, GIVE))
        self.good(("both", half, half), "makers")
        self.bad((), ("both", ("both", half[1], half[1]), ("both", half[1], half[2])), "makers")
        both = ("both", SAY, SAY)
        seven = ("both", both, both)
        self.good(("both", ("both", seven, seven), ("both", ("within", 1, both), both)), "catching")
        self.bad((), ("both", ("both", seven, seven), ("both", ("both", both, SAY), both)), "catching")
        self.bad((), ("both", ("both", seven, seven), ("both", ("catch", both, SAY), ("loop", 0, ("both", SAY, SAY)))), "catching")

    def test_most_behind_the_plan(self):
        for most in (0, 21, -1, True, False, None, "1", (1,), 1.0, 10 ** 9):
            for call in (makers_text, makers_shown):
                with self.assertRaises(BadMost) as caught:
                    call(GIVE, most)
                self.assertIs(caught.exception.most, most)
                with self.assertRaises(BadPlan) as caught:
                    call(("give", 100), most)
                self.assertEqual(caught.exception.place, (1,))
        for most in (1, 20):
            makers_text(GIVE, most)
            makers_shown(GIVE, most)


class Hands(Plans):
    def test_the_plan(self):
        for plan in ((), ((),) * 5, None, [()], [], 1, "hands", True):
            self.bad((), plan, "hands")
        for hand in (None, 1, [], [SAY], "say", True, (SAY,) * 9):
            self.bad((0,), (hand, ()), "hands")
            self.bad((3,), ((), (), (), hand), "hands")

    def test_hands_within(self):
        for hand in (None, 1, [], [SAY], "say", (AWAY,) * 9):
            self.bad((1, 2, 1), ((), (SAY, SAY, ("new", hand))), "hands")
            self.bad((1, 0, 2), ((), (("within", 1, hand),)), "hands")
            self.bad((0, 0, 2, 1, 1), ((("within", 1, (SAY, ("new", hand))),),), "hands")

    def test_depth(self):
        self.good(((("new", (("within", 1, (("new", ()),)),)),),), "hands")
        self.bad((0, 0, 1, 0, 2, 0, 1, 0, 2), ((("new", (("within", 1, (("new", (("within", 1, ()),)),)),)),),), "hands")
        # Ahead of its steps.
        self.bad((0, 0, 1, 0, 1, 0, 1, 0, 1), ((("new", (("new", (("new", (("new", (5,)),)),)),)),),), "hands")

    def test_many_steps(self):
        self.good(((SAY,) * 8, (AWAY,) * 8), "hands")
        self.bad((), ((SAY,) * 8, (AWAY,) * 8, (SAY,)), "hands")
        self.good(((("new", (SAY,) * 7),), (("within", 2, (SAY,) * 7),)), "hands")
        self.bad((), ((("new", (SAY,) * 7),), (("within", 2, (SAY,) * 8),)), "hands")
        # More than 24 parts, hands counted, but 16 steps alone.
        self.good((tuple(("new", ()) for _ in range(8)), tuple(("within", 1, ()) for _ in range(8)), (), ()), "hands")
        # It comes last of all.
        self.bad((3, 0, 1), ((SAY,) * 8, (SAY,) * 8, (SAY,), (("say", 100),)), "hands")

    def test_reading_order(self):
        self.bad((0, 0, 1), ((("within", 100, 5), 5), 5), "hands")
        self.bad((0, 0, 2), ((("within", 99, 5), 5), 5), "hands")
        self.bad((0, 1), ((("within", 99, ()), 5), 5), "hands")
        self.bad((1,), ((("within", 99, ()), SAY), 5), "hands")


class Unchanged(Plans):
    def test_random_plans_are_good_programs(self):
        for recipe, functions in FUNCTIONS.items():
            for seed in range(60):
                plan = good_plan(recipe, seed, 0.95)
                for one in functions[:2]:
                    answer = one(plan)
                    self.assertEqual(one(plan), answer)
                shown = functions[1] if recipe == "makers" else functions[-1]
                self.assertTrue(all(isinstance(text, str) for text in shown(plan)))
                self.assertIsInstance(shown(plan), tuple)


if __name__ == "__main__":
    unittest.main()
