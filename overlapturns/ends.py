"""What a loop and a program end with at one count."""

from overlapturns.machines import Machine
from overlapturns.programs import RUBBISH
from overlapturns.walks import jumps_of, walk
from overlapturns.writings import Writings


def machine_behind_loop(sides, count, world):
    """Return the machine behind so many turns of the loop."""
    machine = Machine(world, "")
    for _ in range(count):
        machine.go(sides.one_turn)
    return machine


def machine_behind_program(sides, count, world):
    """Return the machine behind the program that is begun with a count."""
    code = sides.read_code
    machine = Machine(world, RUBBISH)
    machine.take(sides.program_takes)
    machine.go(walk(code, jumps_of(code), 0, count)[0])
    return machine


def first_unlike(sides, count):
    """Return the first place of error at a count, None if the program is right there."""
    writings = Writings()
    ours = machine_behind_loop(sides, count, writings)
    theirs = machine_behind_program(sides, count, writings)
    for at, (ending, place) in enumerate(zip(sides.loop_ends, sides.program_ends)):
        if ours.worth(ending) != theirs.worth(place):
            return ("out", at)
    for array, index in sorted(set(list(ours.cells) + list(theirs.cells))):
        if ours.content(array, index) != theirs.content(array, index):
            return ("cell", array, index)
    return None
