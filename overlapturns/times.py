"""How long programs take."""

from overlapturns.errors import InvalidCost, InvalidNumber, NotAForm, NotCosts
from overlapturns.fitting import check_program
from overlapturns.growths import first_below_zero, growth_value, least_from_zero_on, least_growth
from overlapturns.growths import lowest_terms, summed_growth
from overlapturns.kinds import is_integer, is_integer_within
from overlapturns.plans import plan_of
from overlapturns.statements import kinds_of
from overlapturns.walks import jumps_of, walk

MOST_COST = 1000


class Costs:
    """What a line of each kind costs, and a look at left."""

    def __init__(self, *, works=1, loads=1, stores=1, copies=1, steps=1, tests=1):
        row = (works, loads, stores, copies, steps, tests)
        for cost in row:
            if not is_integer_within(cost, 0, MOST_COST):
                raise InvalidCost(cost)
        self._row = row

    @property
    def works(self):
        """The cost of a line with work."""
        return self._row[0]

    @property
    def loads(self):
        """The cost of a line with a load."""
        return self._row[1]

    @property
    def stores(self):
        """The cost of a line with a store."""
        return self._row[2]

    @property
    def copies(self):
        """The cost of a copy."""
        return self._row[3]

    @property
    def steps(self):
        """The cost of a step."""
        return self._row[4]

    @property
    def tests(self):
        """The cost of a look at left."""
        return self._row[5]

    def total(self, kinds):
        """Return what so many lines of each kind, and so many looks, cost together."""
        return sum([cost * many for cost, many in zip(self._row, kinds)])

    def __eq__(self, other):
        return isinstance(other, Costs) and self._row == other._row


class Form:
    """A function that tells an integer for each count."""

    def __init__(self, growth):
        self._growth = growth

    @property
    def rise(self):
        """The pair of top and bottom of how much it rises a turn, in lowest terms."""
        return lowest_terms(self._growth)

    @property
    def growth(self):
        """The values as a row, for the other files of the package."""
        return self._growth

    def __call__(self, number):
        if not is_integer(number) or number < 0:
            raise InvalidNumber(number)
        return growth_value(self._growth, number)

    def __add__(self, other):
        if not isinstance(other, Form):
            raise NotAForm(other)
        return Form(summed_growth(self._growth, other._growth, 1))

    def __sub__(self, other):
        if not isinstance(other, Form):
            raise NotAForm(other)
        return Form(summed_growth(self._growth, other._growth, -1))

    def __eq__(self, other):
        return isinstance(other, Form) and self._growth == other._growth

    def __repr__(self):
        top, bottom = self.rise
        return f"Form({top}/{bottom} a turn)"


def growth_of(code, costs):
    """Return the growth of the time that the lines of a program take."""
    jumps = jumps_of(code)
    plan = plan_of(code, jumps)
    # From there on each count takes one going of the plan's body more than the one a stride before.
    values = []
    for count in range(plan.regular + plan.stride):
        gone, looks = walk(code, jumps, 0, count)
        values.append(costs.total(kinds_of(gone, looks)))
    rise = 0
    if plan.body:
        rise = costs.total(kinds_of(plan.body, 1))
    return least_growth(values, plan.stride, rise)


def time_of(program, costs=None):
    """Return the form of the time of a program."""
    check_program(program)
    if costs is None:
        return Form(growth_of(program.code, Costs()))
    if not isinstance(costs, Costs):
        raise NotCosts(costs)
    return Form(growth_of(program.code, costs))


def shortfall(form, other):
    """Return the growth of how much less the first form tells than the other one."""
    if not isinstance(form, Form):
        raise NotAForm(form)
    if not isinstance(other, Form):
        raise NotAForm(other)
    return summed_growth(other.growth, form.growth, -1)


def first_more(form, other):
    """Return the least count at which the first form tells more than the other one, None if there is none."""
    return first_below_zero(shortfall(form, other))


def never_more(form, other):
    """Tell whether the first form tells at most what the other one tells, at every count."""
    return first_more(form, other) is None


def never_more_from(form, other):
    """Return the least count from which on the first form tells at most what the other one tells, or None."""
    return least_from_zero_on(shortfall(form, other))
