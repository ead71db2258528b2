"""What a program means on any of the four machines: made, put back, and one call performed from a standing."""

from goonagain.errors import BadKind, Unfit
from goonagain.jumpmachine import JumpMachine
from goonagain.piecesmachine import PiecesMachine
from goonagain.pilemachine import PileMachine
from goonagain.plain import PlainMachine
from goonagain.standfault import standing_fault

KINDS = ("plain", "pile", "pieces", "jump")


class Stepped:
    """What one call led to: a standing or an outcome, and the texts that were shown."""

    def __init__(self, standing, outcome, shown):
        self.standing = standing
        self.outcome = outcome
        self.shown = shown


def made_machine(kind, program, asks=(), fuel=2000):
    """A new machine of a kind, at the first call or at an outcome."""
    if kind not in KINDS:
        raise BadKind(kind)
    if kind == "plain":
        return PlainMachine(program, asks, fuel)
    if kind == "pile":
        return PileMachine(program, asks, fuel)
    if kind == "pieces":
        return PiecesMachine(program, asks, fuel)
    return JumpMachine(program, asks, fuel)


def restored_machine(kind, program, asks, standing, fuel=2000):
    """A new machine of a kind that goes on from a standing."""
    if kind not in KINDS:
        raise BadKind(kind)
    fault = standing_fault(program, asks, standing)
    if fault is not None:
        raise Unfit(fault[0], fault[1])
    if kind == "plain":
        return PlainMachine.restored(program, asks, standing, fuel)
    if kind == "pile":
        return PileMachine.restored(program, asks, standing, fuel)
    if kind == "pieces":
        return PiecesMachine.restored(program, asks, standing, fuel)
    return JumpMachine.restored(program, asks, standing, fuel)


def stepped(kind, program, asks, standing, fuel=2000):
    """What one call from a standing leads to on a machine of a kind."""
    machine = restored_machine(kind, program, asks, standing, fuel)
    machine.advance()
    return Stepped(machine.standing(), machine.outcome, machine.shown)
