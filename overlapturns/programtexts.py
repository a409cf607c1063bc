"""How the text of a program is read: each line as a row.

Beside statements there are ("take", place, value), ("if", bound), ("else",), ("while", bound),
("end",) and ("out", places).
"""

from overlapturns.limits import MOST_BOUND, MOST_LINES, MOST_PLACES
from overlapturns.statements import arguments_of, arities_of, is_putting, read_statement
from overlapturns.words import are_listed_names, earlier_value, is_name, number_within

MOST_STEP = 4
MOST_STEPPED = 8
MOST_DEEP = 3


def read_numbered(words, least, most):
    """Return the line of a word and a number that the words are, None if the number does not fit."""
    if len(words) != 2:
        return None
    number = number_within(words[1], least, most)
    if number is None:
        return None
    return (words[0], number)


def read_take(words):
    """Return the take that the words are, None if they are none."""
    if len(words) != 3 or not is_name(words[1]):
        return None
    if not is_name(words[2]) and earlier_value(words[2]) is None:
        return None
    return ("take", words[1], words[2])


def read_deed(words):
    """Return the work, load, store or copy that the words are, None if they are none."""
    if len(words) == 3 and words[1] == "=":
        if is_name(words[0]) and is_name(words[2]):
            return ("copy", words[0], words[2])
        return None
    statement = read_statement(words)
    if statement is None or not all([is_name(argument) for argument in arguments_of(statement)]):
        return None
    return statement


def read_line(words):
    """Return the line of a program that the words are, None if they are none."""
    word = words[0]
    if word == "if":
        return read_numbered(words, 0, MOST_BOUND)
    if word == "while":
        return read_numbered(words, 1, MOST_BOUND)
    if word == "step":
        return read_numbered(words, 1, MOST_STEP)
    if word in ("else", "end"):
        return (word,) if len(words) == 1 else None
    if word == "take":
        return read_take(words)
    if word == "out":
        return ("out", tuple(words[1:])) if are_listed_names(words[1:]) else None
    return read_deed(words)


def are_blocks_right(code):
    """Tell whether ifs, elses, whiles and ends stand as they may."""
    around = []
    stepped = 0
    for line in code:
        kind = line[0]
        if kind in ("if", "while", "else") and around and around[-1] == "while":
            return False
        if kind in ("if", "while"):
            around.append(kind)
            stepped = 0
        elif kind == "else":
            if not around or around.pop() != "if":
                return False
            around.append(kind)
        elif kind == "end":
            if not around or (around.pop() == "while" and not 1 <= stepped <= MOST_STEPPED):
                return False
        elif kind == "step":
            stepped += line[1]
        if len([block for block in around if block != "while"]) > MOST_DEEP:
            return False
    return not around


def are_lines_in_order(code):
    """Tell whether takes come first, of different places, `out` last and something between."""
    kinds = [line[0] for line in code]
    takes = kinds.count("take")
    taken = set([line[1] for line in code if line[0] == "take"])
    if "take" in kinds[takes:] or len(taken) != takes or "out" in kinds[:-1]:
        return False
    return takes + kinds.count("out") < len(code)


def places_in(line):
    """Return the places that stand in a line."""
    if line[0] == "take":
        return (line[1],)
    if line[0] == "out":
        return line[1]
    if is_putting(line):
        return (line[1],) + arguments_of(line)
    return arguments_of(line)


def places_of(code):
    """Return the rising row of the places that stand in the lines."""
    met = {}
    for line in code:
        for place in places_in(line):
            met[place] = True
    return tuple(sorted(met))


def read_program(text):
    """Return the row of the lines of a program, None if the text is that of none."""
    lines = text.split("\n")
    if len(lines) > MOST_LINES:
        return None
    code = tuple([read_line(line.split(" ")) for line in lines])
    if None in code or not are_lines_in_order(code) or not are_blocks_right(code):
        return None
    if len(places_of(code)) > MOST_PLACES or arities_of(code) is None:
        return None
    return code
