"""Which lines of a program are gone through."""

from overlapturns.statements import KINDS


def jumps_of(code):
    """Return for lines behind which another line than the following one may come the index of that one.

    From an `if` or a `while` it is where to go if left is too little, from an `else` the line
    behind its end, from the end of a `while` that `while` itself.
    """
    jumps = {}
    around = []
    for at, line in enumerate(code):
        kind = line[0]
        if kind in ("if", "while"):
            around.append(at)
        elif kind == "else":
            jumps[around.pop()] = at + 1
            around.append(at)
        elif kind == "end":
            begun = around.pop()
            jumps[begun] = at + 1
            if code[begun][0] == "while":
                jumps[at] = begun
    return jumps


def walk(code, jumps, at, left):
    """Return the statements that are gone through from a line on, and how often left is looked at."""
    gone = []
    looks = 0
    while at < len(code):
        line = code[at]
        kind = line[0]
        if kind in ("if", "while"):
            looks += 1
            at = at + 1 if left >= line[1] else jumps[at]
            continue
        if kind in KINDS:
            gone.append(line)
        if kind == "step":
            left -= line[1]
        at = jumps.get(at, at + 1)
    return (gone, looks)
