"""Checks the plans of recipes, from which programs are written."""

from goonagain.errors import BadPlan

GREATEST = 99
MOST_COUNT = 4
MOST_DEEP = 5
MOST_PARTS = 24
MOST_HANDS = 4
MOST_STEPS = 8
MOST_HANDS_DEEP = 4
MOST_STEPS_IN_ALL = 16

# What stands behind the word of each part or step of a recipe; "pick" has one to four parts.
SHAPES = {
    ("choices", "is"): ("number",), ("choices", "sum"): ("part", "part"), ("choices", "under"): ("part", "number"),
    ("makers", "give"): ("number",), ("makers", "both"): ("part", "part"),
    ("makers", "again"): ("count", "part"), ("makers", "within"): ("number", "part"),
    ("catching", "say"): ("number",), ("catching", "throw"): ("number",), ("catching", "both"): ("part", "part"),
    ("catching", "within"): ("number", "part"), ("catching", "catch"): ("part", "part"),
    ("catching", "loop"): ("count", "part"), ("catching", "leave"): (),
    ("hands", "say"): ("number",), ("hands", "away"): (), ("hands", "new"): ("hand",),
    ("hands", "within"): ("number", "hand"),
}
MOST_PICKED = 4


def check_plan(plan, recipe):
    """Raises BadPlan at the first fault of a plan."""
    if recipe == "hands":
        _check_hands(plan)
        return
    many = _check_part(plan, recipe, (), False)
    if many > MOST_PARTS:
        raise BadPlan(())


def _shape_of(part, recipe):
    """What stands behind the word of a part, or None if the recipe has no such part."""
    if not isinstance(part, tuple) or not part or not isinstance(part[0], str):
        return None
    behind = len(part) - 1
    if recipe == "choices" and part[0] == "pick":
        return ("part",) * behind if 1 <= behind <= MOST_PICKED else None
    shape = SHAPES.get((recipe, part[0]))
    return shape if shape is not None and len(shape) == behind else None


def _check_part(part, recipe, place, looped):
    """Checks a part at a place, within a loop or not; returns how many parts it has, itself among them."""
    shape = _shape_of(part, recipe)
    if shape is None or len(place) >= MOST_DEEP or part[0] == "leave" and not looped:
        raise BadPlan(place)
    many = 1
    for number, (kind, item) in enumerate(zip(shape, part[1:]), 1):
        if kind == "part":
            many = many + _check_part(item, recipe, place + (number,), looped or part[0] == "loop")
        else:
            _check_number(item, kind, place + (number,))
    return many


def _check_number(item, kind, place):
    """Checks a number or a count."""
    least, most = (0, MOST_COUNT) if kind == "count" else (-GREATEST, GREATEST)
    if not isinstance(item, int) or isinstance(item, bool) or not least <= item <= most:
        raise BadPlan(place)


def _check_hands(plan):
    if not isinstance(plan, tuple) or not 1 <= len(plan) <= MOST_HANDS:
        raise BadPlan(())
    many = sum([_check_hand(hand, (number,), 1) for number, hand in enumerate(plan)])
    if many > MOST_STEPS_IN_ALL:
        raise BadPlan(())


def _check_hand(hand, place, deep):
    """Checks a hand; returns how many steps it has, those of hands within it among them."""
    if not isinstance(hand, tuple) or len(hand) > MOST_STEPS or deep > MOST_HANDS_DEEP:
        raise BadPlan(place)
    return sum([_check_step(step, place + (number,), deep) for number, step in enumerate(hand)])


def _check_step(step, place, deep):
    """As _check_hand, for a step of a hand of some depth."""
    shape = _shape_of(step, "hands")
    if shape is None:
        raise BadPlan(place)
    many = 1
    for number, (kind, item) in enumerate(zip(shape, step[1:]), 1):
        if kind == "hand":
            many = many + _check_hand(item, place + (number,), deep + 1)
        else:
            _check_number(item, kind, place + (number,))
    return many
