"""What a loop and a program do, as they are compared with one another."""

from overlapturns.limits import MOST_OFFSET

# Arrays that lie farther over one another make no right program wrong: all touches of a cell by
# one of its two names come before those by the other one, in the loop and in the program.
MOST_APART = 2 * MOST_OFFSET


class Sides:
    """One turn of a loop and where its results stand; the lines of a program, its takes and its results."""

    def __init__(self, one_turn, loop_ends, read_code, program_takes, program_ends):
        self.one_turn = one_turn
        self.loop_ends = loop_ends
        self.read_code = read_code
        self.program_takes = program_takes
        self.program_ends = program_ends


def sides_of(loop, program):
    """Return the sides of a loop and a program as they are."""
    return Sides(loop.turn, loop.ends, program.code, program.takes, program.outs)


def renamed_line(line, array, name, by):
    """Return a line in which the cells of an array have another name, and offsets greater by so much."""
    if line[0] == "load" and line[2] == array:
        return ("load", line[1], name, line[3] + by)
    if line[0] == "store" and line[1] == array:
        return ("store", name, line[2] + by, line[3])
    return line


def laid_over(sides, one, other, distance):
    """Return the sides with the array `other` over the array `one` at a distance.

    The cells that both have in common are called by the first one of their names.
    """
    array, name, by = (other, one, distance) if one < other else (one, other, -distance)
    turn = tuple([renamed_line(line, array, name, by) for line in sides.one_turn])
    code = tuple([renamed_line(line, array, name, by) for line in sides.read_code])
    return Sides(turn, sides.loop_ends, code, sides.program_takes, sides.program_ends)
