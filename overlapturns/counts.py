"""Counts: sets of integers from 0 on that come again with a period."""

from overlapturns.errors import InvalidNumber, NotACounts
from overlapturns.kinds import is_integer, is_integer_within
from overlapturns.rhythms import is_in_rhythm, joined, least_rhythm, lowest_of
from overlapturns.rhythms import members_of, shared_by, stretched, taken_away

MOST_MEMBER = 10000
MOST_PERIOD = 1000


def is_row_of_members(value):
    """Tell whether a value is a row of integers that callers may hand over."""
    return isinstance(value, tuple) and all([is_integer_within(member, 0, MOST_MEMBER) for member in value])


def rhythm_of(single, again, period):
    """Return the rhythm of single integers, and of others with all behind them by the period."""
    start = max(single + again, default=-1) + 1
    length = start + period
    bits = 0
    for member in sorted(set(single)):
        bits = bits | (1 << member)
    # All others of one residue stand behind the least one.
    least = {}
    for member in again:
        residue = member % period
        least[residue] = min(member, least.get(residue, member))
    for member in sorted(list(least.values())):
        bits = bits | (stretched((period, 1), length - member) << member)
    return least_rhythm(start, period, bits)


def counts_of(rhythm):
    """Return the Counts of a rhythm, whose members and period may be above what callers hand over."""
    made = Counts()
    made._rhythm = rhythm
    return made


class Counts:
    """A set of integers from 0 on: single ones, and ones with all behind them by a period."""

    def __init__(self, single=(), again=(), period=1):
        if not is_row_of_members(single):
            raise InvalidNumber(single)
        if not is_row_of_members(again):
            raise InvalidNumber(again)
        if not is_integer_within(period, 1, MOST_PERIOD):
            raise InvalidNumber(period)
        self._rhythm = rhythm_of(single, again, period)

    @property
    def start(self):
        """The least start with the least period."""
        return self._rhythm[0]

    @property
    def period(self):
        """The least period."""
        return self._rhythm[1]

    @property
    def members(self):
        """The rising row of the members below the start and the period together."""
        return tuple(members_of(self._rhythm[2]))

    @property
    def first(self):
        """The least member, None if there is none."""
        if self._rhythm[2] == 0:
            return None
        return lowest_of(self._rhythm[2])

    @property
    def endless(self):
        """Whether there are infinitely many members."""
        return self._rhythm[2] >> self._rhythm[0] != 0

    def within(self, other):
        """Tell whether all members are in the other one."""
        return (self - other).first is None

    def __or__(self, other):
        if not isinstance(other, Counts):
            raise NotACounts(other)
        return counts_of(joined(self._rhythm, other._rhythm))

    def __and__(self, other):
        if not isinstance(other, Counts):
            raise NotACounts(other)
        return counts_of(shared_by(self._rhythm, other._rhythm))

    def __sub__(self, other):
        if not isinstance(other, Counts):
            raise NotACounts(other)
        return counts_of(taken_away(self._rhythm, other._rhythm))

    def __contains__(self, value):
        return is_integer(value) and is_in_rhythm(value, self._rhythm)

    def __eq__(self, other):
        return isinstance(other, Counts) and self._rhythm == other._rhythm

    def __str__(self):
        told = [str(member) for member in self.members]
        if self.endless:
            told.append(f".. from {self.start} by {self.period}")
        return " ".join(told or ["none"])

    def __repr__(self):
        return f"Counts({str(self)})"
