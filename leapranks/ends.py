"""What a lot tells of a share, and between which ends the share lies."""

from leapranks.fractions import fraction
from leapranks.rows import weight_of


def told_share(web, lot, a):
    """The share of the place a as the lot tells it, a fraction."""
    return fraction(told_top(web, lot, a), told_bottom(web, lot))


def ends_of(web, lot, a):
    """The ends (low, high) between which the share of the place a lies, both let in."""
    rest = lot[2]
    told = told_top(web, lot, a)
    bottom = told_bottom(web, lot)
    low = told + sum(number for number in rest if number < 0)
    high = told + sum(number for number in rest if number > 0)
    return (fraction(low, bottom), fraction(high, bottom))


def told_top(web, lot, a):
    """The told share of the place a, times told_bottom: a whole number."""
    return web[3][0] * weight_of(web, a) * lot[1][a]


def told_bottom(web, lot):
    """The lot's grains times the sum of the leaps."""
    return lot[0] * sum(web[2])
