"""Which cells programs touch."""

from overlapturns.fitting import check_pair, check_program
from overlapturns.limits import MOST_OFFSET
from overlapturns.plans import plan_of
from overlapturns.walks import jumps_of, walk

# A loop with so many turns touches all cells between the first and the last one of an array.
WITHOUT_GAPS = 2 * MOST_OFFSET


def cells_of(statements):
    """Return a dict of the cells that statements touch, as the pointer goes from 0 on."""
    pointer = 0
    cells = {}
    for statement in statements:
        kind = statement[0]
        if kind == "step":
            pointer += statement[1]
        elif kind == "load":
            cells[(statement[2], pointer + statement[3])] = True
        elif kind == "store":
            cells[(statement[1], pointer + statement[2])] = True
    return cells


def cells_at(code, jumps, count):
    """Return the rising list of the cells that a program touches at a count."""
    return sorted(list(cells_of(walk(code, jumps, 0, count)[0])))


def offsets_of(loop):
    """Return for each array of a loop the list of the offsets at which a turn touches it."""
    offsets = {array: [] for array in loop.arrays}
    for array, offset in cells_of(loop.turn):
        offsets[array].append(offset)
    return offsets


def is_touched(offsets, array, index, count):
    """Tell whether so many turns with these offsets touch a cell."""
    return any([0 <= index - offset < count for offset in offsets.get(array, [])])


def first_beyond(loop, program):
    """Return the least count at which a cell is touched that the loop does not touch, with the first such cell."""
    check_pair(loop, program)
    offsets = offsets_of(loop)
    jumps = jumps_of(program.code)
    plan = plan_of(program.code, jumps)
    # From there on the cells lie as they do one going of the plan's body before.
    enough = max(plan.regular, WITHOUT_GAPS) + plan.stride
    for count in range(enough + 1):
        for array, index in cells_at(program.code, jumps, count):
            if not is_touched(offsets, array, index, count):
                return (count, array, index)
    return None


def reach(program):
    """Return for each array its least index that is touched, and how far beyond the count one is at most."""
    check_program(program)
    jumps = jumps_of(program.code)
    plan = plan_of(program.code, jumps)
    least = {}
    most = {}
    # From there on the cells lie as they do one going of the plan's body before.
    for count in range(plan.regular + plan.stride + 1):
        for array, index in cells_at(program.code, jumps, count):
            least[array] = min(index, least.get(array, index))
            most[array] = max(index - count, most.get(array, index - count))
    return tuple([(array, least.get(array), most.get(array)) for array in program.arrays])
