"""The checker: it accepts claims about loops and programs with papers that show them, by runs alone."""

from overlapturns.errors import InvalidNumber, InvalidText
from overlapturns.fitting import is_fit, is_line, shortened
from overlapturns.kinds import is_integer, is_integer_within
from overlapturns.loops import Loop
from overlapturns.programs import Program
from overlapturns.statements import DEEDS
from overlapturns.words import is_letter
from overlapturns.worlds import Numbers

MOST_SHOWN = 60


def read_pair(loop_text, program_text):
    """Return the loop and the program for it with these texts, None if there are none."""
    try:
        loop = Loop(loop_text)
        program = Program(program_text)
    except InvalidText:
        return None
    return (loop, program) if is_fit(loop, program) else None


def world_of(modulus, seed):
    """Return the world Numbers with these numbers, None if there is none."""
    try:
        return Numbers(modulus, seed)
    except InvalidNumber:
        return None


def is_place_of_error(where, loop):
    """Tell whether a value of any kind is a place of error."""
    if not isinstance(where, tuple) or len(where) < 2 or not isinstance(where[0], str):
        return False
    if where[0] == "out":
        return len(where) == 2 and is_integer_within(where[1], 0, len(loop.outs) - 1)
    return where[0] == "cell" and len(where) == 3 and is_letter(where[1]) and is_integer(where[2])


def value_at(outcome, where):
    """Return the value at a place of error behind a run."""
    if where[0] == "out":
        return outcome.results[where[1]]
    return outcome.value(where[1], where[2])


def is_unlike_in(world, loop, program, count, where):
    """Tell whether loop and program end with unlike values at a place of error, in a world."""
    return value_at(loop.run(count, world), where) != value_at(program.run(count, world), where)


def is_shown_wrong(loop, program, count, where, paper):
    """Tell whether a pair of any values is a modulus and a seed of a world that shows what is claimed."""
    if not is_integer_within(count, 0, MOST_SHOWN) or not is_place_of_error(where, loop):
        return False
    world = world_of(paper[0], paper[1])
    return world is not None and is_unlike_in(world, loop, program, count, where)


def is_touched_alone(loop, program, count, array, index):
    """Tell whether the program touches a cell that the loop does not touch."""
    if not is_integer_within(count, 0, MOST_SHOWN) or not is_letter(array) or not is_integer(index):
        return False
    # Which cells are touched is the same in all worlds; in this one values stay small.
    world = Numbers(2, 0)
    ours = loop.run(count, world)
    theirs = program.run(count, world)
    cell = (array, index)
    return cell in theirs.loaded + theirs.stored and cell not in ours.loaded + ours.stored


def is_shown_needed(loop, program, index, paper):
    """Tell whether a row of four values of any kind shows that the program needs a line."""
    if not is_line(program, index, DEEDS):
        return False
    shorter = shortened(program, index)
    return shorter is not None and is_shown_wrong(loop, shorter, paper[0], paper[1], paper[2:])


def accepts(claim, paper):
    """Tell whether the values are a claim for the checker and a paper for it."""
    if not isinstance(paper, tuple) or not isinstance(claim, tuple) or len(claim) < 4 or not isinstance(claim[0], str):
        return False
    # How long claims and papers of each kind are.
    if (claim[0], len(claim), len(paper)) not in (("wrong", 5, 2), ("beyond", 6, 0), ("needed", 4, 4)):
        return False
    pair = read_pair(claim[1], claim[2])
    if pair is None:
        return False
    if claim[0] == "wrong":
        return is_shown_wrong(pair[0], pair[1], claim[3], claim[4], paper)
    if claim[0] == "beyond":
        return is_touched_alone(pair[0], pair[1], claim[3], claim[4], claim[5])
    return is_shown_needed(pair[0], pair[1], claim[3], paper)
