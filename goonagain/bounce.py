"""Steps that are performed one after another, so that none nests in another."""


class Bounce:
    """A step still to be done: a function of one parameter and its argument."""

    def __init__(self, deed, worth):
        self.deed = deed
        self.worth = worth


def run_bounces(bounce, most=1000000):
    """Performs up to most bounces; returns how many, and the first one that is left or None."""
    many = 0
    while bounce is not None and many < most:
        deed = bounce.deed
        bounce = deed(bounce.worth)
        many += 1
    return (many, bounce)
