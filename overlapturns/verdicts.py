"""At which counts a program for a loop is wrong."""

from overlapturns.ends import first_unlike
from overlapturns.forecasts import Forecast
from overlapturns.races import Race
from overlapturns.rhythms import ALL, lowest_of, rhythm_from


class Verdict:
    """A race that is run until the forecast tells how it goes on.

    It is ended earlier if the program stays wrong from some count on. If `hasty` is so, it is
    ended behind the first count at which the program is wrong, whatever comes then.
    """

    def __init__(self, sides, hasty):
        self.race = Race(sides)
        self.hasty = hasty
        self.forecast = None
        self.rounds = 0

    def rhythm(self):
        """Return the rhythm of the counts at which the program is wrong; if hasty, only its first is meant."""
        plan = self.race.plan
        # The first goings are kept from the first regular count on.
        missing = plan.goings_at(plan.regular) + 2
        while missing > 0:
            self.rounds = max(missing, self.rounds)
            if self._is_ended_before(plan.first_count_with(self.rounds)):
                return rhythm_from(self.race.wrongs, self.race.number - 1, ALL)
            missing = self._missing()
        return self.forecast.late_rhythm(self.rounds)

    def _is_ended_before(self, count):
        """Run the race up to a count; tell whether it ended before."""
        while self.race.number < count:
            wrong = self.race.judge_next()
            if self.race.spoiled or (self.hasty and wrong):
                return True
        return False

    def _missing(self):
        """Return 0 if the forecast tells all behind the race, otherwise how many goings may be enough."""
        if self.forecast is None:
            self.forecast = Forecast(self.race)
        if self.rounds < self.forecast.enough():
            return self.forecast.enough()
        return self.forecast.missing(self.rounds)


def wrong_rhythm(sides):
    """Return the rhythm of the counts at which the program is wrong."""
    return Verdict(sides, False).rhythm()


def first_wrong_count(sides):
    """Return the least count at which the program is wrong, None if there is none."""
    bits = Verdict(sides, True).rhythm()[2]
    if bits == 0:
        return None
    return lowest_of(bits)


def is_always_right(sides):
    """Tell whether the program is right for all counts."""
    return first_wrong_count(sides) is None


def first_error(sides):
    """Return the least count at which the program is wrong, with the first place of error there, or None."""
    count = first_wrong_count(sides)
    if count is None:
        return None
    return (count, first_unlike(sides, count))
