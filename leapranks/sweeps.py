"""Sweeps: all is pushed, place by place, until nothing can be pushed any more."""

from leapranks.columns import column_of
from leapranks.lots import rest_behind


def end_of(web, lot):
    """A lot at its end: the places are pushed in turn, each by as many as can be, again and again."""
    grains, goings, rest = lot
    columns = [column_of(web, a) for a in range(len(goings))]
    gone = list(goings)
    pushing = True
    while pushing:
        pushing = False
        for a, column in enumerate(columns):
            many = all_pushes(rest[a], column[a])
            if many != 0:
                gone[a] += many
                rest = rest_behind(rest, many, column)
                pushing = True
    return (grains, tuple(gone), tuple(rest))


def all_pushes(number, size):
    """By how many a place with that rest and size can be pushed at most, with the rest's sign."""
    most = abs(number) // size
    return -most if number < 0 else most
