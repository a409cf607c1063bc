"""Errors of what is handed over to runs."""

from overlapturns.errors import InvalidNumber, NotAWorld
from overlapturns.kinds import is_integer_within
from overlapturns.limits import MOST_COUNT
from overlapturns.worlds import Numbers, Texts


def check_count(count):
    """Raise InvalidNumber for what is no count that callers may hand over."""
    if not is_integer_within(count, 0, MOST_COUNT):
        raise InvalidNumber(count)


def check_world(world):
    """Raise NotAWorld for what is no world."""
    if not isinstance(world, (Texts, Numbers)):
        raise NotAWorld(world)
