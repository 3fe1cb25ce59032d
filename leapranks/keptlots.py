"""Lots kept while a tie or the leaps change: goings stay, rests change at few places."""

from leapranks.changes import changed, with_leaps
from leapranks.columns import column_of
from leapranks.lots import rest_behind


def lot_changed(web, lot, change):
    """The lot of the changed web, of a lot of the web as it was."""
    behind = changed(web, change)
    grains, goings, rest = lot
    a = change[0]
    # Where the column is the same ahead and behind, nothing is added: only the touched rests change.
    more = [new - old for old, new in zip(column_of(web, a), column_of(behind, a))]
    return (grains, goings, tuple(rest_behind(rest, goings[a], more)))


def lot_with_leaps(web, lot, leaps):
    """The lot of the web with other leaps, of a lot of the web as it was."""
    behind = with_leaps(web, leaps)
    grains, goings, rest = lot
    less = [old - new for old, new in zip(web[2], behind[2])]
    return (grains, goings, tuple(rest_behind(rest, grains, less)))
