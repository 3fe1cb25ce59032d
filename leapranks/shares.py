"""The shares of a web: the one split that a round leaves as it is."""

from leapranks.exact import exact_lot
from leapranks.rows import weight_of
from leapranks.rounds import one_round
from leapranks.splits import is_split, split_of


def shares_of(web):
    """The split that a round leaves as it is."""
    return shares_by_goings(web, exact_lot(web)[1])


def shares_by_goings(web, goings):
    """The shares of the web, by goings of a lot without rests, or by as many times these."""
    # A place's share is its going times its weight, by one measure for all places.
    return split_of(tuple(going * weight_of(web, a) for a, going in enumerate(goings)))


def lets_shares(web, thing):
    """Whether a thing is that split."""
    return is_split(len(web[0]), thing) and one_round(web, thing) == thing
