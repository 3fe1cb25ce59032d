"""Staying splits: what rows alone leave as it is within a least closed part."""

from leapranks.columns import lines_of
from leapranks.errors import NoPart
from leapranks.exact import solved
from leapranks.parts import least_closed
from leapranks.shares import split_by_goings
from leapranks.wholes import is_whole


def staying(web, part):
    """The split of walkers who never leap and are in a least closed part."""
    if not is_least_closed(web, part):
        raise NoPart("no least closed part of this web")
    first, *others = part
    lines = lines_of(never_leaping(web))
    # Of one going from the first place, how many from the others follow: what comes to each of
    # these goes on. The first place's own equation follows from theirs and is left out.
    one, rights = solved([[lines[j][a] for a in others] + [-lines[j][first]] for j in others])
    goings = [0] * len(lines)
    goings[first] = one
    for a, right in zip(others, rights):
        goings[a] = right[0]
    return split_by_goings(web, goings)


def is_least_closed(web, thing):
    """Whether a thing is one of the least closed parts, no truth standing for a place."""
    return isinstance(thing, tuple) and all(is_whole(a) for a in thing) and thing in least_closed(web)


def never_leaping(web):
    """The web with a chance of 0 to leap: none that may be handed in, but its columns are as told."""
    names, ties, leaps, chance, falls = web
    return (names, ties, leaps, (0, 1), falls)
