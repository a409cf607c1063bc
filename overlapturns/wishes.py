"""Wishes for the pairs of a book.

A wish is ("right", name), ("over", name, array, other array, distance), ("within", name), or
("never more", name, other name).
"""

from overlapturns.kinds import is_integer_within
from overlapturns.sides import MOST_APART, laid_over, sides_of
from overlapturns.times import first_more, time_of
from overlapturns.touching import first_beyond
from overlapturns.verdicts import first_error
from overlapturns.words import is_letter, is_name


def is_naming(value):
    """Tell whether a value of any kind is a name."""
    return isinstance(value, str) and is_name(value)


def is_laying(one, other, distance):
    """Tell whether values of any kind are two different letters and a distance."""
    if not is_letter(one) or not is_letter(other) or one == other:
        return False
    return is_integer_within(distance, -MOST_APART, MOST_APART)


def is_wish(value):
    """Tell whether a value of any kind is a wish, whatever its names are."""
    if not isinstance(value, tuple) or len(value) < 2 or not isinstance(value[0], str) or not is_naming(value[1]):
        return False
    if value[0] in ("right", "within"):
        return len(value) == 2
    if value[0] == "never more":
        return len(value) == 3 and is_naming(value[2])
    return value[0] == "over" and len(value) == 5 and is_laying(value[2], value[3], value[4])


def names_in(wish):
    """Return the row of the names in a wish."""
    return wish[1:3] if wish[0] == "never more" else wish[1:2]


def shown_against(wish, pairs):
    """Return what shows that a wish does not hold for pairs under names, None if it holds."""
    loop, program = pairs[wish[1]]
    if wish[0] == "right":
        return first_error(sides_of(loop, program))
    if wish[0] == "over":
        return first_error(laid_over(sides_of(loop, program), wish[2], wish[3], wish[4]))
    if wish[0] == "within":
        return first_beyond(loop, program)
    return first_more(time_of(program), time_of(pairs[wish[2]][1]))
