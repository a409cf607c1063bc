"""Statements as rows: what they are read from, and what stands in them.

A statement is one of ("work", name, word, arguments), ("load", name, array, offset),
("store", array, offset, argument), ("copy", name, argument) and ("step", number).
Names and arguments are places of a program or names of a loop.
"""

from overlapturns.limits import MOST_OFFSET
from overlapturns.words import is_letter, is_name, number_within

# The kinds in the order in which an outcome counts them.
KINDS = ("work", "load", "store", "copy", "step")
# Those of which a line can be left out.
DEEDS = ("work", "load", "store", "copy")
MOST_ARGUMENTS = 3


def read_store(words):
    """Return the store that the words are, None if they are none; its argument is any word."""
    if len(words) != 4 or words[0] != "store" or not is_letter(words[1]):
        return None
    offset = number_within(words[2], -MOST_OFFSET, MOST_OFFSET)
    if offset is None:
        return None
    return ("store", words[1], offset, words[3])


def read_load(words):
    """Return the load that the words are, None if they are none."""
    if len(words) != 5 or not is_letter(words[3]):
        return None
    offset = number_within(words[4], -MOST_OFFSET, MOST_OFFSET)
    if offset is None:
        return None
    return ("load", words[0], words[3], offset)


def read_statement(words):
    """Return the work, load or store that the words are, None if they are none; arguments are any words."""
    if words[0] == "store":
        return read_store(words)
    if not 4 <= len(words) <= 3 + MOST_ARGUMENTS or words[1] != "=" or not is_name(words[0]):
        return None
    if words[2] == "load":
        return read_load(words)
    if not is_name(words[2]):
        return None
    return ("work", words[0], words[2], tuple(words[3:]))


def arguments_of(statement):
    """Return the row of what a statement uses."""
    kind = statement[0]
    if kind == "work":
        return statement[3]
    if kind == "store":
        return (statement[3],)
    if kind == "copy":
        return (statement[2],)
    return ()


def is_putting(statement):
    """Tell whether a statement puts a value into its name."""
    return statement[0] in ("work", "load", "copy")


def puts_of(statements):
    """Return the row of the names into which the statements put values, in their order."""
    return tuple([statement[1] for statement in statements if is_putting(statement)])


def arities_of(statements):
    """Return each function word with its number of arguments, None if one has two numbers."""
    arities = {}
    for statement in statements:
        if statement[0] == "work":
            many = len(statement[3])
            if arities.setdefault(statement[2], many) != many:
                return None
    return arities


def words_of(statements):
    """Return the rising row of the function words with their numbers of arguments."""
    arities = arities_of(statements)
    return tuple([(word, arities[word]) for word in sorted(arities)])


def arrays_of(statements):
    """Return the rising row of the arrays that are loaded or stored into."""
    loaded = [statement[2] for statement in statements if statement[0] == "load"]
    stored = [statement[1] for statement in statements if statement[0] == "store"]
    return tuple(sorted(set(loaded + stored)))


def kinds_of(statements, looks):
    """Return how often each kind of statement stands there, and behind them the looks at left."""
    told = [statement[0] for statement in statements]
    return tuple([told.count(kind) for kind in KINDS]) + (looks,)
