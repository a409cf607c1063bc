"""At which counts a program for a loop is wrong."""

from overlapturns.forecasts import Forecast
from overlapturns.races import Race
from overlapturns.rhythms import ALL, lowest_of, rhythm_from


class Verdict:
    """A race that is run until the forecast tells how it goes on.

    It is ended earlier if the program stays wrong from some count on. If `hasty` is so, it is
    ended behind the first count at which the program is wrong, whatever comes then.
    """

    def __init__(self, loop, program, hasty):
        self.race = Race(loop, program)
        self.hasty = hasty
        self.forecast = None
        self.rounds = 0

    def rhythm(self):
        """Return the rhythm of the counts at which the program is wrong; if hasty, only its first is meant."""
        plan = self.race.plan
        # The first goings are kept from the first regular count on.
        missing = plan.goings_at(plan.regular) + 2
        while missing > 0:
            self.rounds = max(missing, self.rounds)
            if self._is_ended_before(plan.first_count_with(self.rounds)):
                return rhythm_from(self.race.wrongs, self.race.number - 1, ALL)
            missing = self._missing()
        return self.forecast.late_rhythm(self.rounds)

    def _is_ended_before(self, count):
        """Run the race up to a count; tell whether it ended before."""
        while self.race.number < count:
            wrong = self.race.judge_next()
            if self.race.spoiled or (self.hasty and wrong):
                return True
        return False

    def _missing(self):
        """Return 0 if the forecast tells all behind the race, otherwise how many goings may be enough."""
        if self.forecast is None:
            self.forecast = Forecast(self.race)
        if self.rounds < self.forecast.enough():
            return self.forecast.enough()
        return self.forecast.missing(self.rounds)


def wrong_rhythm(loop, program):
    """Return the rhythm of the counts at which the program is wrong."""
    return Verdict(loop, program, False).rhythm()


def first_wrong_count(loop, program):
    """Return the least count at which the program is wrong, None if there is none."""
    bits = Verdict(loop, program, True).rhythm()[2]
    if bits == 0:
        return None
    return lowest_of(bits)
