"""Nearness: how far a split is from the shares at most, seen by one round."""

from leapranks.fractions import fraction, is_fraction, is_less
from leapranks.rounds import one_round
from leapranks.splits import gap, is_split


def nearness_of(web, split):
    """The least bound by which the split is let by, a fraction."""
    p, q = web[3]
    top, bottom = gap(split, one_round(web, split))
    return fraction(top * q, bottom * p)


def lets_near(web, thing):
    """Whether a thing is a nearness (split, bound) that is let by."""
    if not isinstance(thing, tuple) or len(thing) != 2:
        return False
    split, bound = thing
    if not is_split(len(web[0]), split) or not is_fraction(bound):
        return False
    # No nearness is below nought, so neither is a bound that isn't less.
    return not is_less(bound, nearness_of(web, split))
