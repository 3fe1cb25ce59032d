"""Rounds: what becomes of a split behind one turn of all walkers, and behind some."""

from leapranks.fractions import fraction
from leapranks.rows import row_of
from leapranks.splits import split_of
from leapranks.wholes import product_of


def one_round(web, split):
    """The split behind one turn."""
    leaps = web[2]
    p, q = web[3]
    numbers, total = split
    scale, coming = come_by_rows(web, numbers)
    leapt = p * total * scale
    walked = (q - p) * sum(leaps)
    return split_of(tuple(leapt * leap + walked * come for leap, come in zip(leaps, coming)))


def come_by_rows(web, numbers):
    """A tuple (scale, coming): what comes to each place by rows, times scale, so that it is whole."""
    rows = [row_of(web, a) for a in range(len(numbers))]
    scale = product_of([sum(row) for row in rows])
    coming = [0] * len(numbers)
    for number, row in zip(numbers, rows):
        each = number * (scale // sum(row))
        for goal, weight in enumerate(row):
            coming[goal] += each * weight
    return (scale, coming)


def after(web, split, many):
    """The split behind so many rounds."""
    for turn in range(many):
        split = one_round(web, split)
    return split


def bound_behind(web, many):
    """How far apart, at most, any two beginnings are behind so many rounds: a fraction."""
    p, q = web[3]
    top = 2
    bottom = 1
    for turn in range(many):
        top *= q - p
        bottom *= q
    return fraction(top, bottom)
