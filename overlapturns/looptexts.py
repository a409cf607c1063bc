"""How the text of a loop is read."""

from overlapturns.limits import MOST_STEPS
from overlapturns.statements import arguments_of, arities_of, is_putting, puts_of, read_statement
from overlapturns.words import are_listed_names, earlier_text, earlier_value


def are_different(words):
    """Tell whether no word stands there twice."""
    return len(set(words)) == len(words)


def is_listed_well(words):
    """Tell whether the words may stand behind `in` or `out`; None stands for no such line."""
    return words is None or (are_listed_names(words) and are_different(words))


def are_arguments_known(steps, inputs):
    """Tell whether each argument is an input, a name above or an earlier value of a name."""
    names = puts_of(steps)
    above = {name: True for name in inputs}
    for step in steps:
        for argument in arguments_of(step):
            earlier = earlier_value(argument)
            if argument not in above and (earlier is None or earlier[0] not in names):
                return False
        if is_putting(step):
            above[step[1]] = True
    return True


def are_steps_right(steps, inputs):
    """Tell whether the steps may stand in one loop with these inputs."""
    if not 1 <= len(steps) <= MOST_STEPS or None in steps:
        return False
    if not are_different(list(inputs) + list(puts_of(steps))) or arities_of(steps) is None:
        return False
    return are_arguments_known(steps, inputs)


def read_loop(text):
    """Return the rows of inputs, steps and results of a loop, None if the text is that of none."""
    rows = [line.split(" ") for line in text.split("\n")]
    inputs = None
    outs = None
    if rows[0][0] == "in":
        inputs = tuple(rows[0][1:])
        rows = rows[1:]
    if rows and rows[-1][0] == "out":
        outs = tuple(rows[-1][1:])
        rows = rows[:-1]
    steps = tuple([read_statement(row) for row in rows])
    if not is_listed_well(inputs) or not is_listed_well(outs) or not are_steps_right(steps, inputs or ()):
        return None
    names = puts_of(steps)
    if not all([out in names for out in outs or ()]):
        return None
    return (inputs or (), steps, outs or ())


def distances_of(steps, outs):
    """Return for each name that is used in later turns how many turns later it is used at most."""
    distances = {name: 1 for name in outs}
    for step in steps:
        for argument in arguments_of(step):
            earlier = earlier_value(argument)
            if earlier is not None:
                name, distance = earlier
                distances[name] = max(distance, distances.get(name, 0))
    return distances


def turn_of(steps, outs):
    """Return the statements of one turn, which hand the values on that later turns use.

    Places called like x@2 hold what x was so many turns ago; the results are in those like x@1.
    """
    handed = []
    distances = distances_of(steps, outs)
    for name in puts_of(steps):
        for distance in range(distances.get(name, 0), 1, -1):
            handed.append(("copy", earlier_text(name, distance), earlier_text(name, distance - 1)))
        if name in distances:
            handed.append(("copy", earlier_text(name, 1), name))
    return tuple(steps) + tuple(handed) + (("step", 1),)
