"""Papers of lifts: a lot for each change shows behind which change a place has its greatest share."""

from leapranks.ends import ends_of
from leapranks.exact import exact_lot
from leapranks.fractions import is_less
from leapranks.lifts import best_change, webs_behind
from leapranks.lots import is_lot
from leapranks.wholes import is_whole


def lift_paper(web, k, changes):
    """A tuple (at, lots) that is let by: lots a list with the exact lot behind each change."""
    best = best_change(web, k, changes)[0]
    return (best, [exact_lot(behind) for behind in webs_behind(web, changes)])


def lets_lift(web, k, changes, thing):
    """Whether a thing is a paper of lifts for the place k and the changes that is let by."""
    webs = webs_behind(web, changes)
    if not isinstance(thing, tuple) or len(thing) != 2:
        return False
    at, lots = thing
    if not is_whole(at) or not 0 <= at < len(webs) or not are_lots(webs, lots):
        return False
    low = ends_of(webs[at], lots[at], k)[0]
    highs = [ends_of(webs[other], lots[other], k)[1] for other in range(len(webs)) if other != at]
    return not any(is_less(low, high) for high in highs)


def are_lots(webs, thing):
    """Whether a thing is a list with a lot that fits for each of the webs, in order."""
    if not isinstance(thing, list) or len(thing) != len(webs):
        return False
    return all(is_lot(web, lot) for web, lot in zip(webs, thing))
