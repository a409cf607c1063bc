"""What of a program can be left out or put otherwise, and where arrays may not lie over one another."""

from overlapturns.errors import InvalidArray, NotRight
from overlapturns.fitting import check_fit, check_line, check_loop, check_pair, check_program, shortened
from overlapturns.limits import MOST_BOUND, MOST_OFFSET
from overlapturns.sides import MOST_APART, laid_over, sides_of
from overlapturns.statements import DEEDS
from overlapturns.verdicts import first_error, is_always_right
from overlapturns.words import is_letter


def check_right(sides):
    """Raise NotRight if the program is not right for all counts."""
    error = first_error(sides)
    if error is not None:
        raise NotRight(error[0], error[1])


def needless(loop, program):
    """Return the rising row of the indexes of the lines each of which can be left out by itself."""
    check_pair(loop, program)
    check_right(sides_of(loop, program))
    found = []
    for index, line in enumerate(program.code):
        if line[0] in DEEDS:
            shorter = shortened(program, index)
            if shorter is not None and is_always_right(sides_of(loop, shorter)):
                found.append(index)
    return tuple(found)


def numbers_that_do(loop, program, index, at, numbers):
    """Return the row of the numbers with which, as this word of a line, the program is right."""
    words = program.lines[index].split(" ")
    found = []
    for number in numbers:
        line = " ".join(words[:at] + [str(number)] + words[at + 1:])
        if is_always_right(sides_of(loop, program.put(index, line))):
            found.append(number)
    return tuple(found)


def bounds_that_do(loop, program, index):
    """Return the rising row of the bounds of an `if` or a `while` with which the program is right."""
    check_loop(loop)
    check_program(program)
    check_line(program, index, ("if", "while"))
    check_fit(loop, program)
    least = 0 if program.code[index][0] == "if" else 1
    return numbers_that_do(loop, program, index, 1, list(range(least, MOST_BOUND + 1)))


def offsets_that_do(loop, program, index):
    """Return the rising row of the offsets of a load or a store with which the program is right."""
    check_loop(loop)
    check_program(program)
    check_line(program, index, ("load", "store"))
    check_fit(loop, program)
    at = 4 if program.code[index][0] == "load" else 2
    return numbers_that_do(loop, program, index, at, list(range(-MOST_OFFSET, MOST_OFFSET + 1)))


def wrong_distances(loop, program, one, other):
    """Return the rising row of the distances at which one array may not lie over the other one."""
    check_loop(loop)
    check_program(program)
    if not is_letter(one):
        raise InvalidArray(one)
    if not is_letter(other) or other == one:
        raise InvalidArray(other)
    check_fit(loop, program)
    sides = sides_of(loop, program)
    check_right(sides)
    distances = range(-MOST_APART, MOST_APART + 1)
    return tuple([far for far in distances if not is_always_right(laid_over(sides, one, other, far))])
