"""Looks: whether a lot fits, seen by residues alone."""

from leapranks.columns import lines_of
from leapranks.errors import TooFew
from leapranks.lots import has_form
from leapranks.residues import look_at_primes
from leapranks.wholes import product_of, sum_of_products


def reach_of(web, lot):
    """The greatest that, at any place, all numbers of the two sides are together, without signs."""
    grains, goings, rest = lot
    sizes = [abs(going) for going in goings]
    return max([
        abs(number) + sum_of_products(sizes, [abs(part) for part in line]) + abs(grains * leap)
        for number, line, leap in zip(rest, lines_of(web), web[2])
    ])


def looked_at(web, thing, primes):
    """Whether a thing is a lot that fits: by each prime both sides leave the same at each place."""
    look_at_primes(primes)
    if not has_form(len(web[0]), thing):
        return False
    if product_of(primes) <= reach_of(web, thing):
        raise TooFew("the primes' product is no greater than the lot's reach")
    overs = overs_of(web, thing)
    return all(over % prime == 0 for over in overs for prime in primes)


def overs_of(web, lot):
    """By how much, at each place, the side of goings and rest is above that of the grains: a list."""
    grains, goings, rest = lot
    return [
        number + sum_of_products(goings, line) - grains * leap
        for number, line, leap in zip(rest, lines_of(web), web[2])
    ]
