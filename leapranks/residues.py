"""The exact lot by residues: put back by many primes together."""

from leapranks.byprime import goings_by, turned_back
from leapranks.errors import NoPrime, TooFew
from leapranks.lots import lot_by
from leapranks.primes import is_prime
from leapranks.putback import put_back
from leapranks.rows import weight_of
from leapranks.wholes import common_divisor, product_of

MOST_PRIMES = 20


def span_of(web):
    """What no top and no bottom of the exact lot's goings over its grains is above."""
    q = web[3][1]
    return sum(web[2]) * product_of([q * weight_of(web, a) for a in range(len(web[0]))])


def exact_by(web, primes):
    """The lot that fits with rests all 0, with the least grains, by the primes."""
    look_at_primes(primes)
    modulus = product_of(primes)
    span = span_of(web)
    if modulus <= 2 * span * span:
        raise TooFew("the primes' product is too small for this web")
    by_primes = [goings_by(web, prime) for prime in primes]
    parts = [put_back(together(residues, primes), modulus, span) for residues in zip(*by_primes)]
    grains = 1
    for top, bottom in parts:
        grains *= bottom // common_divisor(grains, bottom)
    return lot_by(web, grains, tuple(top * (grains // bottom) for top, bottom in parts))


def look_at_primes(primes):
    """Refuses what is no list of one to twenty unlike primes."""
    if not isinstance(primes, list) or not 1 <= len(primes) <= MOST_PRIMES:
        raise NoPrime("no list of one to twenty")
    if not all(is_prime(prime) for prime in primes) or len(set(primes)) < len(primes):
        raise NoPrime("not all of them are primes, or two are alike")


def together(residues, primes):
    """The one number from 0 on, below the primes' product, that leaves each residue by its prime."""
    number = 0
    modulus = 1
    for residue, prime in zip(residues, primes):
        number += modulus * ((residue - number) * turned_back(modulus, prime) % prime)
        modulus *= prime
    return number
