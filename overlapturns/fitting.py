"""What is no loop, no program, no program for a loop, and no line of one."""

from overlapturns.errors import InvalidNumber, InvalidText, NotALoop, NotAProgram, OtherOuts, OtherWords, UnknownInput
from overlapturns.kinds import is_integer_within
from overlapturns.loops import Loop
from overlapturns.programs import Program
from overlapturns.words import earlier_value


def check_loop(loop):
    """Raise NotALoop for what is no loop."""
    if not isinstance(loop, Loop):
        raise NotALoop(loop)


def check_program(program):
    """Raise NotAProgram for what is no program."""
    if not isinstance(program, Program):
        raise NotAProgram(program)


def is_known_to(loop, value):
    """Tell whether the value of a take is an input or a first value of the loop."""
    earlier = earlier_value(value)
    if earlier is None:
        return value in loop.inputs
    return earlier[0] in loop.names


def check_fit(loop, program):
    """Raise what tells first why a program is not for a loop."""
    for take in program.takes:
        if not is_known_to(loop, take[1]):
            raise UnknownInput(take[1])
    arities = {word: many for word, many in loop.words}
    for word, many in program.words:
        if arities.get(word, many) != many:
            raise OtherWords(word)
    if len(loop.outs) != len(program.outs):
        raise OtherOuts(len(program.outs))


def check_pair(loop, program):
    """Raise what tells first why these are not a loop and a program for it."""
    check_loop(loop)
    check_program(program)
    check_fit(loop, program)


def is_fit(loop, program):
    """Tell whether a program is for a loop."""
    try:
        check_fit(loop, program)
    except (UnknownInput, OtherWords, OtherOuts):
        return False
    return True


def is_line(program, index, kinds):
    """Tell whether a value of any kind is the index of a line of one of these kinds."""
    return is_integer_within(index, 0, len(program.code) - 1) and program.code[index][0] in kinds


def check_line(program, index, kinds):
    """Raise InvalidNumber for what is not the index of a line of one of these kinds."""
    if not is_line(program, index, kinds):
        raise InvalidNumber(index)


def shortened(program, index):
    """Return the program without a line, None if that is none."""
    try:
        return program.without(index)
    except InvalidText:
        return None
