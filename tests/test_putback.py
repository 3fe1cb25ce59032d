import math
import time
import unittest

from leapranks.putback import put_back
from tests.examples import HUGE, Numbers, left_alone


def all_put_back(modulus, most):
    """For each number the fraction that is put back, bottom by bottom."""
    found = {}
    for bottom in range(1, most + 1):
        for number in range(modulus):
            top = bottom * number % modulus
            if top <= most and math.gcd(top, bottom) == 1:
                found[number] = (top, bottom)
    return found


class PutBackTest(unittest.TestCase):
    def told(self, number, modulus, most, one):
        with self.subTest(number=number, modulus=modulus, most=most):
            self.assertEqual(left_alone(self, put_back, number, modulus, most), one)

    def test_by_hand(self):
        self.told(0, 3, 1, (0, 1))
        self.told(1, 3, 1, (1, 1))
        self.told(2, 3, 1, None)
        self.told(5, 101, 7, (5, 1))
        # 3 times 34 is 102.
        self.told(34, 101, 7, (1, 3))
        self.told(67, 101, 7, None)

    def test_all_numbers_of_small_moduli(self):
        for most in range(1, 8):
            for modulus in range(2 * most * most + 1, 2 * most * most + 31):
                found = all_put_back(modulus, most)
                for number in range(modulus):
                    self.told(number, modulus, most, found.get(number))

    def test_at_the_ends_of_what_most_lets(self):
        for most, modulus in ((10, 211), (99, 99991), (1000, 2000003), (10 ** 30, 2 * 10 ** 60 + 7)):
            for top, bottom in ((most, 1), (1, most), (most, most - 1), (most - 1, most), (0, 1), (1, 1)):
                if math.gcd(bottom, modulus) == 1:
                    self.told(top * pow(bottom, -1, modulus) % modulus, modulus, most, (top, bottom))
            for top, bottom in ((most + 1, 1), (1, most + 1), (most + 1, most), (most, most + 1)):
                if math.gcd(bottom, modulus) == 1:
                    self.told(top * pow(bottom, -1, modulus) % modulus, modulus, most, None)

    def test_no_top_below_0(self):
        for bottom in range(1, 11):
            for top in range(1, 11):
                self.told(-top * pow(bottom, -1, 211) % 211, 211, 10, None)

    def test_an_even_modulus(self):
        # 2 times 502 leaves 2, but 2 over 2 is 1 over 1, and 1 times 502 doesn't leave 1.
        self.told(502, 1002, 20, None)
        self.told(1, 1002, 20, (1, 1))
        # 2 times 501 is 1002, which leaves 0, but nought is 0 over 1 alone.
        self.told(501, 1002, 20, None)
        self.told(0, 1002, 20, (0, 1))

    def test_a_bottom_that_shares_a_divisor_with_the_modulus(self):
        # 2 times 504 leaves 6, but 6 over 2 is 3 over 1, and 1 times 504 doesn't leave 3.
        self.told(504, 1002, 20, None)
        # 4 times 251 leaves 2, but 2 over 4 is 1 over 2, and 2 times 251 doesn't leave 1.
        self.told(251, 1002, 20, None)
        # 3 times 335 leaves 3, and 6 times 168 leaves 6.
        self.told(335, 1002, 20, None)
        self.told(168, 1002, 20, None)
        found = all_put_back(1002, 20)
        for number in range(1002):
            self.told(number, 1002, 20, found.get(number))

    def test_just_above_twice_most_times_most(self):
        for most in (1, 2, 5, 12, 31):
            modulus = 2 * most * most + 1
            found = all_put_back(modulus, most)
            for number in range(modulus):
                self.told(number, modulus, most, found.get(number))

    def test_of_two_hundred_figures(self):
        numbers = Numbers(190)
        modulus, most = 10 ** 200 - 1, 7 * 10 ** 98
        self.assertGreater(modulus, 2 * most * most)
        start = time.monotonic()
        found = 0
        for turn in range(100):
            top, bottom = numbers.between(0, most), numbers.between(1, most)
            if math.gcd(top, bottom) == math.gcd(bottom, modulus) == 1:
                self.told(top * pow(bottom, -1, modulus) % modulus, modulus, most, (top, bottom))
                found += 1
            self.told(numbers.below(modulus), modulus, 10 ** 40, None)
        self.assertGreater(found, 20)
        self.assertLess(time.monotonic() - start, 10)
        # 9 times this one leaves 0, but 0 over 9 isn't in lowest terms.
        self.told(HUGE, modulus, most, None)
        self.told(modulus - 1, modulus, most, None)
        self.told(0, modulus, most, (0, 1))
        self.told(most, modulus, most, (most, 1))
        self.told(most + 1, modulus, most, None)

    def test_most_far_below_the_modulus(self):
        for top in range(4):
            for bottom in range(1, 4):
                if math.gcd(top, bottom) == 1:
                    self.told(top * pow(bottom, -1, 999983) % 999983, 999983, 3, (top, bottom))
                    self.told(top * pow(bottom, -1, 999983) % 999983, 999983, 700, (top, bottom))


if __name__ == "__main__":
    unittest.main()
