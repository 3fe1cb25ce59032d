import unittest

from leapranks.fractions import is_fraction
from leapranks.splits import gap, is_split, share_of, split_of
from tests.examples import HUGE, OF_ANY_KIND, Numbers, left_alone
from tests.walks import as_pair, distance, parts_of

TENTHS = ((1,) * 10, 10)


class IsSplitTest(unittest.TestCase):
    def told(self, many, thing, answer):
        with self.subTest(many=many, thing=thing):
            self.assertIs(left_alone(self, is_split, many, thing), answer)

    def test_splits(self):
        self.told(1, ((1,), 1), True)
        self.told(2, ((0, 1), 1), True)
        self.told(3, ((6, 10, 15), 31), True)
        self.told(10, TENTHS, True)
        self.told(10, ((0,) * 9 + (1,), 1), True)
        self.told(2, ((HUGE, HUGE + 1), 2 * HUGE + 1), True)

    def test_wrong_totals(self):
        self.told(2, ((1, 2), 2), False)
        self.told(2, ((1, 2), 4), False)
        self.told(2, ((1, 2), -3), False)
        self.told(2, ((HUGE, HUGE + 1), 2 * HUGE), False)
        self.told(2, ((0, 0), 0), False)
        self.told(1, ((0,), 0), False)

    def test_common_divisors(self):
        self.told(1, ((2,), 2), False)
        self.told(2, ((2, 4), 6), False)
        self.told(3, ((0, 3, 0), 3), False)
        self.told(3, ((6, 10, 14), 30), False)
        self.told(2, ((HUGE, HUGE), 2 * HUGE), False)

    def test_numbers_below_nought(self):
        self.told(2, ((-1, 2), 1), False)
        self.told(2, ((3, -1), 2), False)
        self.told(1, ((-1,), -1), False)

    def test_truths(self):
        self.told(1, ((True,), 1), False)
        self.told(1, ((1,), True), False)
        self.told(2, ((1, False), 1), False)
        self.told(2, ((True, 1), 2), False)

    def test_another_number_of_places(self):
        for many in range(1, 11):
            self.told(many, TENTHS, many == 10)
            self.told(many, ((1, 1), 2), many == 2)
        self.told(1, ((), 0), False)

    def test_other_forms(self):
        for thing in ([[1, 1], 2], ([1, 1], 2), [(1, 1), 2], ((1, 1),), ((1, 1), 2, 2), ((1, 1), "2"),
                      ((1, "1"), 2), ((1, None), 1), (None, 2), ((1, 1), None), (2, (1, 1)), ((1, 1), (2,)),
                      ("11", 2), ({0: 1, 1: 1}, 2)):
            self.told(2, thing, False)

    def test_of_anything(self):
        for thing in OF_ANY_KIND:
            self.told(1, thing, thing == ((1,), 1))
            self.told(2, thing, thing == ((1, 0), 1))
            self.told(10, thing, False)


class SplitOfTest(unittest.TestCase):
    def test_lowest_terms(self):
        for numbers, told in (((4, 6), ((2, 3), 5)), ((0, 7), ((0, 1), 1)), ((5,), ((1,), 1)),
                              ((6, 10, 15), ((6, 10, 15), 31)), ((30,) * 10, TENTHS),
                              ((12, 0, 18), ((2, 0, 3), 5)), ((HUGE, 0, 2 * HUGE), ((1, 0, 2), 3)),
                              ((HUGE, HUGE + 1), ((HUGE, HUGE + 1), 2 * HUGE + 1))):
            self.assertEqual(left_alone(self, split_of, numbers), told)

    def test_is_a_split(self):
        numbers = Numbers(5)
        for k in range(100):
            many = numbers.between(1, 10)
            told = split_of(tuple(6 * numbers.below(40) for n in range(many - 1)) + (12,))
            self.assertIs(is_split(many, told), True)


class ShareAndGapTest(unittest.TestCase):
    def test_shares_in_lowest_terms(self):
        split = ((2, 0, 4, 9), 15)
        told = [left_alone(self, share_of, split, a) for a in range(4)]
        self.assertEqual(told, [(2, 15), (0, 1), (4, 15), (3, 5)])
        self.assertEqual(share_of(((1,), 1), 0), (1, 1))
        self.assertEqual(share_of(((HUGE, 2 * HUGE + 1), 3 * HUGE + 1), 0), (HUGE, 3 * HUGE + 1))

    def test_gaps_by_hand(self):
        for one, other, told in ((((1, 1), 2), ((1, 1), 2), (0, 1)), (((1, 0), 1), ((0, 1), 1), (2, 1)),
                                 (((1, 0, 0), 1), ((0, 1, 2), 3), (2, 1)), (((1, 1), 2), ((1, 0), 1), (1, 1)),
                                 (((1, 2), 3), ((1, 1), 2), (1, 3)), (((1, 3), 4), ((3, 1), 4), (1, 1)),
                                 (((1,), 1), ((1,), 1), (0, 1)), (((1, 2, 3), 6), ((3, 1, 2), 6), (2, 3))):
            self.assertEqual(left_alone(self, gap, one, other), told)
            self.assertEqual(left_alone(self, gap, other, one), told)

    def test_gaps_of_great_numbers(self):
        one, other = ((HUGE, HUGE + 1), 2 * HUGE + 1), ((HUGE + 1, HUGE), 2 * HUGE + 1)
        self.assertEqual(gap(one, other), (2, 2 * HUGE + 1))

    def test_as_python_reckons(self):
        numbers = Numbers(6)
        for k in range(200):
            many = numbers.between(1, 10)
            one, other = (split_of(tuple(numbers.below(9) for n in range(many - 1)) + (3,)) for turn in range(2))
            told = gap(one, other)
            self.assertIs(is_fraction(told), True)
            self.assertEqual(told, as_pair(distance(parts_of(one), parts_of(other))))
            for a in range(many):
                self.assertEqual(share_of(one, a), as_pair(parts_of(one)[a]))


if __name__ == "__main__":
    unittest.main()
