"""Goings by a prime: those of the exact lot, as far as the prime tells them."""

from leapranks.columns import lines_of
from leapranks.errors import NoLuck, NoPrime
from leapranks.primes import is_prime
from leapranks.wholes import first_small_rest


def goings_by(web, prime):
    """The goings, over the grains, by residues: a tuple of numbers from 0 to below the prime."""
    if not is_prime(prime):
        raise NoPrime("no prime")
    lines = [[number % prime for number in (*line, leap)] for line, leap in zip(lines_of(web), web[2])]
    for at in range(len(lines)):
        lines = cleared_by(lines, at, prime)
    return tuple(line[-1] for line in lines)


def cleared_by(lines, at, prime):
    """The lines with 1 at the place numbered at in the line numbered so, 0 in all others there."""
    found = [k for k in range(at, len(lines)) if lines[k][at] != 0]
    # Without such a line the determinant, the table's one, is divided by the prime.
    if not found:
        raise NoLuck("the prime divides the table's one")
    turn = turned_back(lines[found[0]][at], prime)
    chosen = [number * turn % prime for number in lines[found[0]]]
    others = [line for k, line in enumerate(lines) if k != found[0]]
    cleared = [[(x - line[at] * y) % prime for x, y in zip(line, chosen)] for line in others]
    return cleared[:at] + [chosen] + cleared[at:]


def turned_back(number, prime):
    """The number from 1 to below the prime by which a number that it doesn't divide becomes 1."""
    return first_small_rest(prime, number % prime, 1)[1] % prime
