"""Fractions: tuples (top, bottom) in lowest terms, bottom from 1 on."""

from leapranks.wholes import are_wholes, common_divisor


def fraction(top, bottom):
    """The fraction of top over bottom, a whole number but 0."""
    divisor = common_divisor(top, bottom)
    if bottom < 0:
        divisor = -divisor
    return (top // divisor, bottom // divisor)


def is_fraction(thing):
    """Whether a thing is a fraction in lowest terms."""
    if not are_wholes(2, thing):
        return False
    top, bottom = thing
    return bottom >= 1 and common_divisor(top, bottom) == 1


def is_less(one, other):
    """Whether one fraction is less than another one."""
    return one[0] * other[1] < other[0] * one[1]
