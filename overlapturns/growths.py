"""Functions of counts that from some count on grow by the same amount with every period.

A growth is a row (values, period, rise): the values at the counts from 0 on, of which the last
ones are as many as the period; from there on f(n + period) is f(n) + rise.
"""

from math import gcd, lcm

from overlapturns.courses import least_period_of


def least_growth(values, period, rise):
    """Return the growth of the same function with the least period, and with that the fewest values."""
    begin = len(values) - period
    again = values[begin:] + [values[begin] + rise]
    width = least_period_of([later - number for number, later in zip(again, again[1:])])
    rise = rise * width // period
    many = begin + width
    while many > width and values[many - width - 1] + rise == values[many - 1]:
        many -= 1
    return (tuple(values[:many]), width, rise)


def growth_value(growth, count):
    """Return the value at a count."""
    values, period, rise = growth
    if count < len(values):
        return values[count]
    begin = len(values) - period
    goings, behind = divmod(count - begin, period)
    return values[begin + behind] + goings * rise


def summed_growth(one, other, factor):
    """Return the growth of one and so many times the other one."""
    period = lcm(one[1], other[1])
    begin = max(len(one[0]) - one[1], len(other[0]) - other[1])
    counts = range(begin + period)
    values = [growth_value(one, count) + factor * growth_value(other, count) for count in counts]
    rise = one[2] * (period // one[1]) + factor * other[2] * (period // other[1])
    return least_growth(values, period, rise)


def lowest_terms(growth):
    """Return how much a growth rises a count, as a pair of top and bottom in lowest terms."""
    _, period, rise = growth
    shared = gcd(rise, period)
    return (rise // shared, period // shared)


def first_below_zero(growth):
    """Return the least count at which the value is below 0, None if there is none."""
    values, period, rise = growth
    for count, value in enumerate(values):
        if value < 0:
            return count
    if rise >= 0:
        return None
    begin = len(values) - period
    return min([begin + at + period * (value // -rise + 1) for at, value in enumerate(values[begin:])])


def last_below_zero(value, count, period, rise):
    """Return the last count, from this one on by the period, at which a rising value is below 0."""
    return count + period * ((-value - 1) // rise)


def least_from_zero_on(growth):
    """Return the least count from which on no value is below 0, None if there is none."""
    values, period, rise = growth
    if rise < 0:
        return None
    begin = len(values) - period
    least = 0
    for count, value in enumerate(values):
        if value < 0 and count < begin:
            least = count + 1
        elif value < 0:
            if rise == 0:
                return None
            least = max(least, last_below_zero(value, count, period, rise) + 1)
    return least
