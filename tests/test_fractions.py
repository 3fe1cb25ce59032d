import unittest
from fractions import Fraction

from leapranks.fractions import fraction, is_fraction
from tests.examples import HUGE, OF_ANY_KIND, Numbers, left_alone


class FractionTest(unittest.TestCase):
    def test_lowest_terms(self):
        for top, bottom, told in ((1, 2, (1, 2)), (2, 4, (1, 2)), (6, 3, (2, 1)), (7, 1, (7, 1)),
                                  (12, 18, (2, 3)), (5, 5, (1, 1))):
            self.assertEqual(left_alone(self, fraction, top, bottom), told)

    def test_signs_stand_on_top(self):
        for top, bottom, told in ((-2, 4, (-1, 2)), (2, -4, (-1, 2)), (-2, -4, (1, 2)),
                                  (-7, 1, (-7, 1)), (7, -1, (-7, 1)), (-3, -3, (1, 1))):
            self.assertEqual(left_alone(self, fraction, top, bottom), told)

    def test_nought(self):
        for bottom in (1, -1, 12, -12, HUGE, -HUGE):
            self.assertEqual(left_alone(self, fraction, 0, bottom), (0, 1))

    def test_two_hundred_figures(self):
        self.assertEqual(len(str(HUGE)), 200)
        self.assertEqual(fraction(HUGE, HUGE), (1, 1))
        self.assertEqual(fraction(HUGE, -7), (-int("1" * 200), 1))
        self.assertEqual(fraction(10 ** 199, 6 * 10 ** 198), (5, 3))
        self.assertEqual(fraction(HUGE, HUGE + 1), (HUGE, HUGE + 1))

    def test_as_python_reckons(self):
        numbers = Numbers(3)
        for k in range(300):
            top = numbers.between(-60, 60)
            bottom = numbers.between(1, 40) * (1 - 2 * numbers.below(2))
            one = Fraction(top, bottom)
            self.assertEqual(fraction(top, bottom), (one.numerator, one.denominator))

    def test_what_is_told_is_a_fraction(self):
        for top in range(-12, 13):
            for bottom in (-12, -5, -1, 1, 6, 9):
                self.assertIs(is_fraction(fraction(top, bottom)), True)


class IsFractionTest(unittest.TestCase):
    def test_fractions(self):
        for thing in ((0, 1), (1, 1), (-1, 1), (1, 2), (-7, 12), (12, 7), (HUGE, HUGE + 1),
                      (-HUGE, 10 ** 199)):
            self.assertIs(left_alone(self, is_fraction, thing), True)

    def test_not_in_lowest_terms(self):
        for thing in ((2, 4), (-2, 4), (0, 2), (0, 12), (6, 3), (HUGE, HUGE), (0, HUGE)):
            self.assertIs(left_alone(self, is_fraction, thing), False)

    def test_bottoms_of_nought_or_below(self):
        for thing in ((1, 0), (0, 0), (1, -1), (1, -2), (-1, -2), (0, -1)):
            self.assertIs(left_alone(self, is_fraction, thing), False)

    def test_truths(self):
        for thing in ((True, 1), (1, True), (False, 1), (True, True), (True, 2), True, False):
            self.assertIs(left_alone(self, is_fraction, thing), False)

    def test_other_things(self):
        for thing in ([1, 2], (1,), (1, 2, 3), (), ("1", "2"), "1/2", "12", None, (None, 1),
                      (1, None), ([1], 2), {1: 2, 2: 3}, ((1, 2),), 1):
            self.assertIs(left_alone(self, is_fraction, thing), False)

    def test_of_anything(self):
        for thing in OF_ANY_KIND:
            self.assertIs(left_alone(self, is_fraction, thing), thing == (1, 2))


if __name__ == "__main__":
    unittest.main()
