"""Rankings: tuples with each place once, the foremost first."""

from leapranks.ends import ends_of
from leapranks.fractions import is_less
from leapranks.webs import MOST_PLACES
from leapranks.wholes import has_each_once


def is_ranking(many, thing):
    """Whether a thing is a ranking of so many places."""
    return 1 <= many <= MOST_PLACES and has_each_once(many, thing)


def ranking_of(split):
    """The places by their shares, greater ones ahead, of alike ones the lesser number ahead."""
    numbers = split[0]
    return tuple(sorted(range(len(numbers)), key=lambda a: (-numbers[a], a)))


def surely_ahead(web, lot):
    """A rising list of tuples (ahead, behind): the one's low end is above the other's high end."""
    places = list(range(len(web[0])))
    ends = [ends_of(web, lot, a) for a in places]
    return [(a, b) for a in places for b in places if is_less(ends[b][1], ends[a][0])]
