"""Putting back: a fraction found again by what it leaves when divided by a modulus."""

from leapranks.wholes import common_divisor, first_small_rest


def put_back(number, modulus, most):
    """The fraction, top and bottom at most so much, that leaves the number, or None."""
    # All pairs (top, bottom) that fit, with either sign, are so many times the first small one.
    top, bottom = first_small_rest(modulus, number, most)
    # Where both have a divisor, the fraction in lowest terms doesn't fit itself.
    if not 1 <= bottom <= most or common_divisor(top, bottom) != 1:
        return None
    return (top, bottom)
