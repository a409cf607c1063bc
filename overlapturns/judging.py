"""Whether programs for a loop are right."""

from overlapturns.asking import check_count
from overlapturns.counts import counts_of
from overlapturns.ends import first_unlike
from overlapturns.fitting import check_fit, check_loop, check_pair, check_program
from overlapturns.sides import sides_of
from overlapturns.verdicts import first_error, wrong_rhythm


def is_right(loop, program, count):
    """Tell whether the program is right at a count."""
    check_loop(loop)
    check_program(program)
    check_count(count)
    check_fit(loop, program)
    return first_unlike(sides_of(loop, program), count) is None


def first_wrong(loop, program):
    """Return the least count at which the program is not right with the first place of error, or None."""
    check_pair(loop, program)
    return first_error(sides_of(loop, program))


def wrong_counts(loop, program):
    """Return the Counts of the counts at which the program is not right."""
    check_pair(loop, program)
    return counts_of(wrong_rhythm(sides_of(loop, program)))
