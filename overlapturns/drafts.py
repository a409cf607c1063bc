"""Drafts of programs for loops: rows as programs are read to, in which values stand for places.

A value is called as in the statements of a loop's turn: an input, a name, an earlier value like
x@2. Beside these, x+0, x+1 and so on is what the loads of this turn and of the next ones put into x.
"""

from overlapturns.limits import MOST_DISTANCE
from overlapturns.programs import Program
from overlapturns.programtexts import places_of
from overlapturns.statements import arguments_of
from overlapturns.words import earlier_text, is_name

LETTERS = "abcdefghijklmnopqrstuvwxyz"
# What is put behind a name for its earlier values, and for those that are loaded ahead.
SUFFIXES = {"@1": "a", "@2": "b", "@3": "c", "+0": "p", "+1": "q", "+2": "r"}


def coming_text(name, turns):
    """Return the word for what is loaded into a name so many turns later."""
    return f"{name}+{turns}"


def takes_of(loop):
    """Return the takes of all inputs and first values that a loop uses."""
    used = {value: True for value in loop.ends}
    for statement in loop.turn:
        for value in arguments_of(statement):
            used[value] = True
    values = list(loop.inputs)
    for name in loop.names:
        values.extend([earlier_text(name, distance) for distance in range(1, MOST_DISTANCE + 1)])
    return tuple([("take", value, value) for value in values if value in used])


def while_of(bound, statements):
    """Return the rows of a `while` around statements."""
    return (("while", bound),) + tuple(statements) + (("end",),)


def free_name(wanted, used):
    """Return the wanted name if it is one and free, otherwise a free one of two letters."""
    names = [wanted] + [left + right for left in LETTERS for right in LETTERS]
    return [name for name in names if is_name(name) and name not in used][0]


def places_for(values):
    """Return for each value a place of its own: for inputs and names their own names."""
    places = {value: value for value in values if is_name(value)}
    used = dict(places)
    for value in values:
        if value not in places:
            place = free_name(value[:-2] + SUFFIXES[value[-2:]], used)
            places[value] = place
            used[place] = True
    return places


def line_of(row, places):
    """Return the line of a program for a row, in which places stand for the values."""
    kind = row[0]
    if kind == "take":
        return f"take {places[row[1]]} {row[2]}"
    if kind == "out":
        return " ".join(["out"] + [places[value] for value in row[1]])
    if kind in ("if", "else", "while", "end", "step"):
        return " ".join([str(word) for word in row])
    used = " ".join([places[value] for value in arguments_of(row)])
    if kind == "store":
        return f"store {row[1]} {row[2]} {used}"
    if kind == "load":
        return f"{places[row[1]]} = load {row[2]} {row[3]}"
    if kind == "copy":
        return f"{places[row[1]]} = {used}"
    return f"{places[row[1]]} = {row[2]} {used}"


def written_out(loop, rows):
    """Return the program that does what the rows tell, between the takes and the results of a loop."""
    code = takes_of(loop) + tuple(rows)
    if loop.ends:
        code = code + (("out", loop.ends),)
    places = places_for(places_of(code))
    return Program("\n".join([line_of(row, places) for row in code]))
