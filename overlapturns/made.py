"""Programs that are made for loops."""

from overlapturns.drafts import coming_text, while_of, written_out
from overlapturns.errors import InvalidNumber, TooFar
from overlapturns.fitting import check_loop
from overlapturns.kinds import is_integer_within
from overlapturns.limits import MOST_OFFSET

LEAST_TIMES = 2
MOST_TIMES = 4
MOST_AHEAD = 3


def plain(loop):
    """Return a program for a loop with one `while`, which does one turn each time."""
    check_loop(loop)
    return written_out(loop, while_of(1, loop.turn))


def unrolled(loop, times):
    """Return a program for a loop whose first `while` does so many turns each time."""
    check_loop(loop)
    if not is_integer_within(times, LEAST_TIMES, MOST_TIMES):
        raise InvalidNumber(times)
    return written_out(loop, while_of(times, loop.turn * times) + while_of(1, loop.turn))


def lasting_loads(loop):
    """Return the loads of a loop from arrays into which it never stores."""
    stored = [statement[1] for statement in loop.turn if statement[0] == "store"]
    return [statement for statement in loop.turn if statement[0] == "load" and statement[2] not in stored]


def fetched(loads, slot, turns):
    """Return the statements that load what the loads find so many turns later, as values of a slot."""
    return [("load", coming_text(name, slot), array, offset + turns) for _, name, array, offset in loads]


def handed_down(loads, slots):
    """Return the statements that hand each slot's values to the one before."""
    handed = []
    for slot in range(1, slots):
        handed.extend([("copy", coming_text(load[1], slot - 1), coming_text(load[1], slot)) for load in loads])
    return handed


def turn_from(loop, loads, slot):
    """Return the statements of a turn that has the values of a slot in the place of its loads."""
    turn = []
    for statement in loop.turn:
        if statement in loads:
            turn.append(("copy", statement[1], coming_text(statement[1], slot)))
        else:
            turn.append(statement)
    return turn


def fetching_turn(loop, loads, turns):
    """Return the statements of a turn that loads for a later one, and hands the slots on."""
    turn = turn_from(loop, loads, 0)
    return turn[:-1] + handed_down(loads, turns) + fetched(loads, turns - 1, turns) + turn[-1:]


def ahead(loop, turns):
    """Return a program for a loop that loads from arrays without stores so many turns earlier."""
    check_loop(loop)
    if not is_integer_within(turns, 1, MOST_AHEAD):
        raise InvalidNumber(turns)
    loads = lasting_loads(loop)
    for load in loads:
        if load[3] + turns > MOST_OFFSET:
            raise TooFar(load[2])
    first = []
    last = []
    for slot in range(turns):
        first.extend(fetched(loads, slot, slot))
        last.extend(turn_from(loop, loads, slot))
    rows = [("if", turns)] + first + list(while_of(turns + 1, fetching_turn(loop, loads, turns))) + last
    if turns > 1:
        rows.extend((("else",),) + while_of(1, loop.turn))
    return written_out(loop, rows + [("end",)])
