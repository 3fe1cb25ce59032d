"""Middles: a ranking that is, from all of a list together, as little apart as can be told."""

from leapranks.apart import apart


def ahead_by_most(rankings, a, b):
    """Whether more of the rankings have a ahead of b than behind it."""
    return ahead_in(rankings, a, b) > ahead_in(rankings, b, a)


def ahead_in(rankings, a, b):
    """In how many of the rankings a stands ahead of b."""
    return sum(1 for ranking in rankings if ranking.index(a) < ranking.index(b))


def sum_of(rankings, ranking):
    """How far a ranking is apart from all of the rankings together."""
    return sum(apart(one, ranking) for one in rankings)


def floor_of(rankings):
    """What no ranking's sum is less than: of each pair the fewer ones who have it in one order."""
    places = rankings[0]
    return sum(
        min(ahead_in(rankings, a, b), ahead_in(rankings, b, a))
        for at, a in enumerate(places)
        for b in places[at + 1:]
    )


def middle_of(rankings):
    """A tuple ("row", ranking, sum), or, where places are ahead in a ring, ("ring", ring, ranking, sum)."""
    row = ()
    left = sorted(rankings[0])
    while left:
        foremost = [a for a in left if not those_ahead(rankings, a, left)]
        if not foremost:
            best = first_of_least_sum(rankings)
            return ("ring", ring_within(rankings, left), best, sum_of(rankings, best))
        row = (*row, foremost[0])
        left.remove(foremost[0])
    return ("row", row, sum_of(rankings, row))


def those_ahead(rankings, a, places):
    """Those of the places that are ahead of a by most, a list."""
    return [b for b in places if ahead_by_most(rankings, b, a)]


def ring_within(rankings, places):
    """A list of places in a ring, each ahead by most of the next one; each of the places has one ahead."""
    walked = [places[0]]
    while True:
        ahead = those_ahead(rankings, walked[-1], places)[0]
        if ahead in walked:
            # The walk went from places to those ahead of them: read from behind it is a ring.
            return walked[walked.index(ahead):][::-1]
        walked.append(ahead)


def first_of_least_sum(rankings):
    """The first of the rankings that has the least sum of them all."""
    sums = [sum_of(rankings, ranking) for ranking in rankings]
    return rankings[sums.index(min(sums))]
