import time
import unittest

from leapranks.primes import is_prime
from tests.examples import HUGE, OF_ANY_KIND, left_alone


def sieve(many):
    """A list of truths: whether each number below many is a prime."""
    marks = [False, False] + [True] * (many - 2)
    for one in range(2, many):
        if marks[one]:
            for other in range(one * one, many, one):
                marks[other] = False
    return marks


class IsPrimeTest(unittest.TestCase):
    def told(self, thing, answer):
        with self.subTest(thing=thing):
            self.assertIs(left_alone(self, is_prime, thing), answer)

    def test_primes(self):
        for one in (2, 3, 5, 7, 11, 97, 101, 997, 7919, 65537, 104729, 999953, 999959, 999961, 999979, 999983):
            self.told(one, True)

    def test_0_1_and_below_0(self):
        for one in (1, 0, -1, -2, -3, -7, -999983, -10 ** 29):
            self.told(one, False)

    def test_squares_and_products(self):
        for one in (4, 9, 25, 49, 289, 961 * 961, 983 * 983, 991 * 991, 997 * 997, 2 * 499979, 991 * 997, 3 * 333323,
                    6, 15, 999981, 999982):
            self.told(one, False)

    def test_those_that_look_like_primes(self):
        for one in (341, 561, 645, 1105, 1387, 1729, 2047, 3277, 6601, 8911, 29341, 41041, 75361, 825265, 997633):
            self.told(one, False)

    def test_above_the_greatest(self):
        for one in (999984, 999985, 10 ** 6, 1000003, 1000033, 2147483647, 10 ** 29 + 319, 10 ** 30 - 1, 2 ** 89 - 1,
                    HUGE):
            self.told(one, False)

    def test_other_kinds(self):
        for thing in (True, False, None, "2", "", "3", [2], [], (2,), (), (2, 3), {}, {2: 3}, [3, 5], ((2,),)):
            self.told(thing, False)
        for thing in OF_ANY_KIND:
            if thing != 7:
                self.told(thing, False)

    def test_as_a_sieve_tells(self):
        marks = sieve(10 ** 6)
        for one in list(range(10 ** 4)) + list(range(996 * 996, 998 * 998)):
            if one < 10 ** 6:
                self.assertIs(is_prime(one), marks[one], one)
        self.assertEqual(max(one for one in range(999900, 10 ** 6) if marks[one]), 999983)

    def test_quickly(self):
        start = time.monotonic()
        for turn in range(200):
            is_prime(999983)
        is_prime(10 ** 30 - 1)
        self.assertLess(time.monotonic() - start, 5)


if __name__ == "__main__":
    unittest.main()
