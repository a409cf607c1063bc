"""A loop and programs for it."""

from overlapturns.loops import Loop
from overlapturns.programs import Program

LOOP = "in k\nx = load A 0\ny = mul x k\ns = add s@1 y\nstore B 0 s\nout s"
PROGRAM = (
    "take s s@1\ntake k k\nif 1\nx = load A 0\nwhile 2\ny = mul x k\nx = load A 1\ns = add s y\n"
    "store B 0 s\nstep 1\nend\ny = mul x k\ns = add s y\nstore B 0 s\nstep 1\nend\nout s"
)


def sample_loop():
    """Return the loop that sums products and stores each sum."""
    return Loop(LOOP)


def sample_program():
    """Return the program for it that loads the next turn's value within each turn."""
    return Program(PROGRAM)


def hasty_program():
    """Return the program that goes on with this one turn too long."""
    return sample_program().put(4, "while 1")
