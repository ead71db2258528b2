"""Programs: a text, its tree, and the bodies and places of the flat program."""

from goonagain.plainset import without_set
from goonagain.printer import program_text
from goonagain.reader import read_program
from goonagain.scopes import check_names, free_names

CONSTANTS = ("true", "false", "none")


class Program:
    """A program that machines run; its attributes do not change."""

    def __init__(self, text):
        self.text = text
        self.tree = read_program(text)
        check_names(self.tree)
        self.plain = without_set(self.tree)
        flat = Flattening()
        flat.made_fun((), self.plain, {})
        self.bodies = flat.bodies_made()
        self.places = flat.places_made()

    @staticmethod
    def of_tree(tree):
        """The program of the text that is printed for a tree."""
        return Program(program_text(tree))


class Stretch:
    """Where rows are being put: a body, the rows so far, and the width of the env behind them."""

    def __init__(self, body, width):
        self.body = body
        self.width = width
        self.rows = []


class Flattening:
    """The bodies and places made so far, numbered in the order in which their forms are come to."""

    def __init__(self):
        self._bodies = []
        self._places = []

    def bodies_made(self):
        """All bodies, once everything is flat."""
        return tuple([(arity, held, tuple(rows)) for arity, held, rows in self._bodies])

    def places_made(self):
        """All places, once everything is flat."""
        return tuple([(body, width, tuple(rows)) for body, width, rows in self._places])

    def made_fun(self, names, form, scope):
        """Makes the body of a fun flat; returns its number and the slots that it captures."""
        caught = free_names(("fn", names, form))
        number = len(self._bodies)
        spot = Stretch(number, len(names) + len(caught))
        self._bodies.append((len(names), len(caught), spot.rows))
        inside = {name: slot for slot, name in enumerate(names + caught)}
        self.flow(form, inside, spot)
        return (number, tuple([scope[name] for name in caught]))

    def simple(self, tree, scope):
        """The simple of a simple form."""
        word = tree[0]
        if word == "number":
            return ("value", tree[1])
        if word in CONSTANTS:
            return ("value", tree)
        if word == "name":
            return ("slot", scope[tree[1]])
        if word == "fn":
            return ("fun",) + self.made_fun(tree[1], tree[2], scope)
        if word == "show":
            return ("show", self.simple(tree[1], scope))
        if word == "op":
            return ("op", tree[1], tuple([self.simple(part, scope) for part in tree[2]]))
        return ("ask",)

    def bind(self, tree, scope, spot):
        """Puts the value of a form into the next slot, which is returned."""
        slot = spot.width
        if is_simple(tree):
            spot.rows.append(("let", self.simple(tree, scope)))
        else:
            later = []
            place = len(self._places)
            self._places.append((spot.body, slot, later))
            spot.rows.append(("wait", place, self.branch(tree, scope, spot)))
            spot.rows = later
        spot.width = slot + 1
        return slot

    def branch(self, tree, scope, spot):
        """The rows of a form of their own, beginning in the env of a spot."""
        inner = Stretch(spot.body, spot.width)
        first = inner.rows
        self.flow(tree, scope, inner)
        return tuple(first)

    def operands(self, trees, scope, spot):
        """The simples of operands, which are bound to slots unless all of them are simple."""
        if all([is_simple(tree) for tree in trees]):
            return tuple([self.simple(tree, scope) for tree in trees])
        return tuple([("slot", self.bind(tree, scope, spot)) for tree in trees])

    def flow(self, tree, scope, spot):
        """Puts the rows of a form at a spot, up to a final row."""
        if is_simple(tree):
            spot.rows.append(("give", self.simple(tree, scope)))
        else:
            action = FLOWS[tree[0]]
            action(self, tree, scope, spot)


def is_simple(tree):
    """Whether a form surely calls nothing."""
    word = tree[0]
    if word == "show":
        return is_simple(tree[1])
    if word == "op":
        return all([is_simple(part) for part in tree[2]])
    return word in ("number", "true", "false", "none", "name", "fn", "ask")


def _flow_op(flat, tree, scope, spot):
    parts = flat.operands(tree[2], scope, spot)
    spot.rows.append(("give", ("op", tree[1], parts)))


def _flow_show(flat, tree, scope, spot):
    parts = flat.operands((tree[1],), scope, spot)
    spot.rows.append(("give", ("show", parts[0])))


def _flow_call(flat, tree, scope, spot):
    parts = flat.operands((tree[1],) + tree[2], scope, spot)
    spot.rows.append(("call", parts[0], parts[1:]))


def _flow_if(flat, tree, scope, spot):
    test = flat.operands((tree[1],), scope, spot)[0]
    yes = flat.branch(tree[2], scope, spot)
    no = flat.branch(tree[3], scope, spot)
    spot.rows.append(("if", test, yes, no))


def _flow_do(flat, tree, scope, spot):
    for part in tree[1][:-1]:
        flat.bind(part, scope, spot)
    flat.flow(tree[1][-1], scope, spot)


def _flow_let(flat, tree, scope, spot):
    inside = dict(scope)
    for name, side in tree[1]:
        inside[name] = flat.bind(side, scope, spot)
    flat.flow(tree[2], inside, spot)


def _flow_rec(flat, tree, scope, spot):
    inside = dict(scope)
    for name, _ in tree[1]:
        inside[name] = spot.width
        spot.width += 1
    funs = tuple([flat.made_fun(side[1], side[2], inside) for _, side in tree[1]])
    spot.rows.append(("rec", funs))
    flat.flow(tree[2], inside, spot)


def _flow_keep(flat, tree, scope, spot):
    """The rows of a keep or once form: the rest is bound to the next slot."""
    inside = dict(scope)
    inside[tree[1]] = spot.width
    spot.width += 1
    spot.rows.append((tree[0],))
    flat.flow(tree[2], inside, spot)


def _flow_mark(flat, tree, scope, spot):
    spot.rows.append(("mark",))
    flat.flow(tree[1], scope, spot)


def _flow_take(flat, tree, scope, spot):
    spot.rows.append(("take", ("fun",) + flat.made_fun((tree[1],), tree[2], scope)))


def _flow_wind(flat, tree, scope, spot):
    enter, leave = flat.operands((tree[1], tree[3]), scope, spot)
    body = ("fun",) + flat.made_fun((), tree[2], scope)
    spot.rows.append(("wind", enter, body, leave))


# The forms that may call, each with what makes it flat.
FLOWS = {
    "op": _flow_op, "show": _flow_show, "call": _flow_call, "if": _flow_if, "do": _flow_do, "let": _flow_let,
    "rec": _flow_rec, "keep": _flow_keep, "once": _flow_keep, "mark": _flow_mark, "take": _flow_take,
    "wind": _flow_wind,
}
