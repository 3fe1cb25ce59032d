"""Changes of a web: of the weight of a tie, and of the leaps."""

from leapranks.columns import column_of
from leapranks.errors import NoChange
from leapranks.webs import MOST_TIES, are_leaps, is_tie


def changed(web, change):
    """The web in which the tie from a to b has the weight of the change."""
    names, ties, leaps, chance, falls = web
    if not is_tie(len(names), 0, change):
        raise NoChange("no change of this web")
    a, b, weight = change
    others = [tie for tie in ties if tie[:2] != (a, b)]
    if weight > 0:
        others.append((a, b, weight))
    if len(others) > MOST_TIES:
        raise NoChange("more than forty ties")
    return (names, tuple(sorted(others)), leaps, chance, falls)


def touched(web, change):
    """The places at which the column of the change's a differs ahead and behind, a rising list."""
    return [place for place, more in enumerate(column_growth(web, change)) if more != 0]


def column_growth(web, change):
    """How much greater the column of the change's a is behind than ahead, place by place: a list."""
    behind = changed(web, change)
    a = change[0]
    return [new - old for old, new in zip(column_of(web, a), column_of(behind, a))]


def with_leaps(web, leaps):
    """The web with other leaps."""
    names, ties, old_leaps, chance, falls = web
    if not are_leaps(len(names), leaps):
        raise NoChange("no leaps for this web")
    return (names, ties, leaps, chance, falls)
