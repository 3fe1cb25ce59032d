"""Webs, splits, lots and rankings turned about by an order: the place k becomes order[k]."""

from leapranks.errors import NoOrder
from leapranks.wholes import has_each_once


def turned_web(web, order):
    """The web with its places turned."""
    names, ties, leaps, chance, falls = web
    look_at_order(len(names), order)
    turned_ties = tuple(sorted((order[a], order[b], weight) for a, b, weight in ties))
    turned_falls = () if falls == () else placed(falls, order)
    return (placed(names, order), turned_ties, placed(leaps, order), chance, turned_falls)


def turned_split(split, order):
    """The split with its places turned."""
    numbers, total = split
    look_at_order(len(numbers), order)
    return (placed(numbers, order), total)


def turned_lot(lot, order):
    """The lot with its places turned."""
    grains, goings, rest = lot
    look_at_order(len(goings), order)
    return (grains, placed(goings, order), placed(rest, order))


def turned_ranking(ranking, order):
    """The ranking of the same places, as they are numbered then."""
    look_at_order(len(ranking), order)
    return tuple(order[a] for a in ranking)


def look_at_order(many, order):
    """Refuses what is no order of so many places."""
    if not has_each_once(many, order):
        raise NoOrder("no order of as many places")


def placed(things, order):
    """A tuple with each thing at the place to which the order leads it."""
    turned = list(things)
    for thing, goal in zip(things, order):
        turned[goal] = thing
    return tuple(turned)
