"""Mixtures: the shares of leaps of many kinds, mixed of those of leaps to one place."""

from leapranks.changes import with_leaps
from leapranks.shares import shares_of, split_by_goings
from leapranks.tables import unit
from leapranks.wholes import sum_of_products


def shares_from(web, a):
    """The shares of the web with leaps of 1 at the place a, 0 elsewhere."""
    return shares_of(with_leaps(web, tuple(unit(len(web[0]), a))))


def shares_by(web, table):
    """The shares of the web, by a table that is let by."""
    return split_by_goings(web, [sum_of_products(row, web[2]) for row in table[1]])
