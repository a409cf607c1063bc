"""Papers that the checker accepts."""

from overlapturns.checker import MOST_SHOWN, is_unlike_in
from overlapturns.fitting import check_fit, check_line, check_loop, check_pair, check_program, shortened
from overlapturns.sides import sides_of
from overlapturns.statements import DEEDS
from overlapturns.touching import first_beyond
from overlapturns.verdicts import first_error
from overlapturns.worlds import Numbers

MODULUS = 999999937
MANY_SEEDS = 100


def shown_error(loop, program):
    """Return the row of count, place of error, modulus and seed that shows a program wrong, None if none does."""
    error = first_error(sides_of(loop, program))
    if error is None or error[0] > MOST_SHOWN:
        return None
    count, where = error
    for seed in range(MANY_SEEDS):
        if is_unlike_in(Numbers(MODULUS, seed), loop, program, count, where):
            return (count, where, MODULUS, seed)
    return None


def paper_of_wrong(loop, program):
    """Return a claim that the program is wrong with a paper for it, None if there is none."""
    check_pair(loop, program)
    shown = shown_error(loop, program)
    if shown is None:
        return None
    return (("wrong", loop.text, program.text) + shown[:2], shown[2:])


def paper_of_beyond(loop, program):
    """Return a claim that the program touches a cell beyond the loop's with a paper for it, None if there is none."""
    beyond = first_beyond(loop, program)
    if beyond is None or beyond[0] > MOST_SHOWN:
        return None
    return (("beyond", loop.text, program.text) + beyond, ())


def paper_of_needed(loop, program, index):
    """Return a claim that the program needs a line with a paper for it, None if there is none."""
    check_loop(loop)
    check_program(program)
    check_line(program, index, DEEDS)
    check_fit(loop, program)
    shorter = shortened(program, index)
    if shorter is None:
        return None
    shown = shown_error(loop, shorter)
    if shown is None:
        return None
    return (("needed", loop.text, program.text, index), shown)
