"""The shares of a web: the one split that a round leaves as it is."""

from leapranks.exact import exact_lot
from leapranks.rows import weight_of
from leapranks.rounds import one_round
from leapranks.splits import is_split, split_of


def shares_of(web):
    """The split that a round leaves as it is."""
    return split_by_goings(web, exact_lot(web)[1])


def split_by_goings(web, goings):
    """The split of walkers who go on from each place so often, by one measure for all places."""
    # A going is one by each of the row's numbers: so a place's share is its going times its weight.
    return split_of(tuple(going * weight_of(web, a) for a, going in enumerate(goings)))


def lets_shares(web, thing):
    """Whether a thing is that split."""
    return is_split(len(web[0]), thing) and one_round(web, thing) == thing
