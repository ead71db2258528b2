"""All errors of the package."""


class RestsError(ValueError):
    """What every error of the package is."""


class BadText(RestsError):
    """A text that is no program: a word for the fault and its place, in signs from 0."""

    def __init__(self, place, what):
        self.place = place
        self.what = what


class BadName(RestsError):
    """A name that nothing binds, or that one form binds twice."""

    def __init__(self, what, name):
        self.what = what
        self.name = name


class BadAsks(RestsError):
    """Inputs that a run cannot take: the index of the first bad one."""

    def __init__(self, index):
        self.index = index


class BadTurnName(RestsError):
    """A name that no turn has."""

    def __init__(self, name):
        self.name = name


class NoTurn(RestsError):
    """A turn that does not apply at a path."""

    def __init__(self, path, name):
        self.path = path
        self.name = name


class BadCode(RestsError):
    """Pile code that does not fit its program."""

    def __init__(self, fault):
        self.fault = fault


class NoKeep(RestsError):
    """A path at which no keep form stands."""

    def __init__(self, path):
        self.path = path


class BadListing(RestsError):
    """A listing of jump code that cannot be read: its first bad line, from 1."""

    def __init__(self, line):
        self.line = line


class BadJumps(RestsError):
    """Jump code that does not fit its program."""

    def __init__(self, fault):
        self.fault = fault


class BadKind(RestsError):
    """A kind that no machine has."""

    def __init__(self, kind):
        self.kind = kind


class Unfit(RestsError):
    """A standing that is not well: a word for its first fault and the birth concerned."""

    def __init__(self, word, birth):
        self.word = word
        self.birth = birth


class BadStanding(RestsError):
    """A text that tells no standing: its first bad line, from 1, and a word for the fault."""

    def __init__(self, place, what):
        self.place = place
        self.what = what


class NoCall(RestsError):
    """A machine that stands at no call any more: its outcome."""

    def __init__(self, outcome):
        self.outcome = outcome


class BadPlan(RestsError):
    """A plan of a recipe that is not good: the place of its first fault."""

    def __init__(self, place):
        self.place = place


class BadMost(RestsError):
    """A number of items that a maker cannot be asked for."""

    def __init__(self, most):
        self.most = most


class BadCount(RestsError):
    """A number of calls or of entries that is no whole number from 0."""

    def __init__(self, many):
        self.many = many


class BadHandover(RestsError):
    """A row of handovers that is not good: the index of the first bad one."""

    def __init__(self, index):
        self.index = index


class Ahead(RestsError):
    """A standing that has shown more texts than were seen."""

    def __init__(self, shown):
        self.shown = shown


class BadKept(RestsError):
    """A kept standing with fewer calls than the one before it on a shelf."""

    def __init__(self, calls):
        self.calls = calls


class BadDeed(RestsError):
    """A row of deeds that is not good: the index of the first bad one."""

    def __init__(self, index):
        self.index = index
