"""Lifts: which change of a tie lifts or lowers a place most."""

from leapranks.changes import changed
from leapranks.errors import NoChange
from leapranks.fractions import fraction, is_less
from leapranks.kepttables import table_changed
from leapranks.rows import weight_of
from leapranks.tables import table_of
from leapranks.wholes import sum_of_products

MOST_CHANGES = 12


def share_behind(web, table, change, k):
    """The share of the place k behind a change, by the table of the web as it was: a fraction."""
    one, rows = table_changed(web, table, change)
    leaps = web[2]
    p = web[3][0]
    going = sum_of_products(rows[k], leaps)
    return fraction(p * weight_of(changed(web, change), k) * going, one * sum(leaps))


def best_change(web, k, changes):
    """A tuple (at, share): the first change behind which the share of k is greatest."""
    shares = shares_behind(web, k, changes)
    best = 0
    for at, share in enumerate(shares):
        if is_less(shares[best], share):
            best = at
    return (best, shares[best])


def worst_change(web, k, changes):
    """A tuple (at, share): the first change behind which the share of k is least."""
    shares = shares_behind(web, k, changes)
    worst = 0
    for at, share in enumerate(shares):
        if is_less(share, shares[worst]):
            worst = at
    return (worst, shares[worst])


def shares_behind(web, k, changes):
    """The share of the place k behind each of the changes, a list."""
    look_at_changes(changes)
    table = table_of(web)
    return [share_behind(web, table, change, k) for change in changes]


def webs_behind(web, changes):
    """The web behind each of the changes, a list; each is of the web as it is."""
    look_at_changes(changes)
    return [changed(web, change) for change in changes]


def look_at_changes(changes):
    """Refuses what is no list of one to twelve things, whether these are changes or not."""
    if not isinstance(changes, list) or not 1 <= len(changes) <= MOST_CHANGES:
        raise NoChange("no list of one to twelve changes")
