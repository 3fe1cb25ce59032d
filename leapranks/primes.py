"""Primes, from 2 to 999983."""

from leapranks.wholes import is_whole

GREATEST_PRIME = 999983


def is_prime(thing):
    """Whether a thing is a prime."""
    if not is_whole(thing) or not 2 <= thing <= GREATEST_PRIME:
        return False
    divisor = 2
    # A number that is no prime has a divisor whose square isn't above it.
    while divisor * divisor <= thing:
        if thing % divisor == 0:
            return False
        divisor += 1
    return True
