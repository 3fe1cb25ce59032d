"""Pushes: what rests at a place goes on by its column."""

from leapranks.columns import column_of, size_of
from leapranks.errors import NoPush
from leapranks.lots import rest_behind
from leapranks.wholes import is_whole


def can_push(web, lot):
    """The places that can be pushed, a rising list."""
    return [a for a in range(len(lot[2])) if most_pushes(web, lot, a) > 0]


def most_pushes(web, lot, a):
    """By how many, without its sign, the place a can be pushed at most."""
    return abs(lot[2][a]) // size_of(web, a)


def push(web, lot, a, many):
    """The lot behind pushing the place a by many."""
    grains, goings, rest = lot
    if not is_whole(many) or not 1 <= abs(many) <= most_pushes(web, lot, a):
        raise NoPush("the place can't be pushed by so many")
    if (many < 0) != (rest[a] < 0):
        raise NoPush("a push has the sign of the rest")
    pushed = list(goings)
    pushed[a] += many
    return (grains, tuple(pushed), tuple(rest_behind(rest, many, column_of(web, a))))
