"""Hands a run over from one machine to another, through a text."""

from goonagain.errors import BadKind, NoCall
from goonagain.meaning import KINDS, restored_machine
from goonagain.readstand import read_standing
from goonagain.writestand import standing_text


def handed_over(machine, kind):
    """A new machine of a kind that goes on where a machine stands; that one may go on by itself."""
    if kind not in KINDS:
        raise BadKind(kind)
    if machine.outcome is not None:
        raise NoCall(machine.outcome)
    standing = read_standing(standing_text(machine.standing()))
    return restored_machine(kind, machine.program, machine.asks, standing, machine.fuel)
