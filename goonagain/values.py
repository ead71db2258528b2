"""The values of the language."""

TRUE = ("true",)
FALSE = ("false",)
NONE = ("none",)

GREATEST = 10**9


def is_value(thing):
    """Whether any object has the form of a value."""
    if is_whole(thing):
        return -GREATEST <= thing <= GREATEST
    if not isinstance(thing, tuple) or not thing or not isinstance(thing[0], str):
        return False
    if len(thing) == 1:
        return thing in (TRUE, FALSE, NONE)
    return len(thing) == 2 and thing[0] in ("pair", "fun", "rest") and is_whole(thing[1]) and thing[1] >= 1


def is_whole(thing):
    """Whether any object is a whole number: True and False are none."""
    return isinstance(thing, int) and not isinstance(thing, bool)
