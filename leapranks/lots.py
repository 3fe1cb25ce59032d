"""Lots: tuples (grains, goings, rest) that tell how far walkers are shared out."""

from leapranks.columns import column_of
from leapranks.wholes import are_wholes, is_whole


def is_lot(web, thing):
    """Whether a thing is a lot that fits the web."""
    if not has_form(len(web[0]), thing):
        return False
    grains, goings, rest = thing
    return rest == lot_by(web, grains, goings)[2]


def has_form(many, thing):
    """Whether a thing has the form of a lot of so many places, fitting or not."""
    if not isinstance(thing, tuple) or len(thing) != 3:
        return False
    grains, goings, rest = thing
    return is_whole(grains) and grains >= 1 and are_wholes(many, goings) and are_wholes(many, rest)


def lot_by(web, grains, goings):
    """The lot of some goings, with some grains, that fits."""
    rest = [grains * leap for leap in web[2]]
    for a, going in enumerate(goings):
        rest = rest_behind(rest, going, column_of(web, a))
    return (grains, tuple(goings), tuple(rest))


def rest_behind(rest, going, column):
    """What rests, place by place, behind so many goings more by a column: a list."""
    return [number - going * part for number, part in zip(rest, column)]


def begun(web, grains):
    """The lot from which nothing has gone yet."""
    return lot_by(web, grains, (0,) * len(web[0]))


def joined(one, other):
    """The lot with the sums of the grains, goings and rests of two."""
    grains_one, goings_one, rest_one = one
    grains_other, goings_other, rest_other = other
    return (grains_one + grains_other, sums(goings_one, goings_other), sums(rest_one, rest_other))


def sums(ones, others):
    """The sums of two tuples' numbers, place by place."""
    return tuple(x + y for x, y in zip(ones, others))
