"""Inflows: what comes into a part by rows from outside of it."""

from leapranks.fractions import fraction
from leapranks.rounds import come_by_rows


def comes_in(web, split, part):
    """What comes into the part from places that aren't in it, by the split: a fraction."""
    numbers, total = split
    outside = [0 if a in part else number for a, number in enumerate(numbers)]
    scale, coming = come_by_rows(web, outside)
    return fraction(sum(coming[a] for a in part), scale * total)
