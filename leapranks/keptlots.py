"""Lots kept while a tie or the leaps change: goings stay, rests change at few places."""

from leapranks.changes import column_growth, with_leaps
from leapranks.lots import rest_behind


def lot_changed(web, lot, change):
    """The lot of the changed web, of a lot of the web as it was."""
    # Where the column doesn't grow, nothing is added: only the touched rests change.
    growth = column_growth(web, change)
    grains, goings, rest = lot
    return (grains, goings, tuple(rest_behind(rest, goings[change[0]], growth)))


def lot_with_leaps(web, lot, leaps):
    """The lot of the web with other leaps, of a lot of the web as it was."""
    behind = with_leaps(web, leaps)
    grains, goings, rest = lot
    less = [old - new for old, new in zip(web[2], behind[2])]
    return (grains, goings, tuple(rest_behind(rest, grains, less)))
