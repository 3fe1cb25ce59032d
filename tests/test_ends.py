import unittest
from fractions import Fraction

from leapranks.ends import ends_of, told_share
from leapranks.exact import exact_lot
from leapranks.fractions import is_fraction
from leapranks.lots import begun, is_lot, lot_by
from leapranks.rows import weight_of
from leapranks.shares import shares_of
from leapranks.splits import share_of
from tests.examples import ALWAYS, HUGE, LONE, PAIR, PAIR_FALLS, THREE, Numbers, all_webs, left_alone
from tests.test_lots import some_goings
from tests.walks import as_pair, shares_by_elimination

THIRTY = 10 ** 30 - 1


def lots_of_all_kinds(seed):
    """Tuples (web, lot): begun ones, exact ones, with goings of either sign, great and small."""
    numbers = Numbers(seed)
    for web in all_webs():
        many = len(web[0])
        yield web, begun(web, 7)
        yield web, exact_lot(web)
        yield web, lot_by(web, 1, (-THIRTY,) * many)
        yield web, lot_by(web, THIRTY, (THIRTY,) * many)
        for most in (1, 40, THIRTY, HUGE):
            yield web, lot_by(web, numbers.between(1, most), some_goings(numbers, many, most))


class ToldShareTest(unittest.TestCase):
    def told(self, web, lot, shares):
        self.assertIs(is_lot(web, lot), True)
        self.assertEqual([left_alone(self, told_share, web, lot, a) for a in range(len(web[0]))], shares)

    def test_by_hand(self):
        self.told(PAIR, (4, (0, 0), (4, 0)), [(0, 1), (0, 1)])
        self.told(PAIR, (4, (1, 0), (0, 2)), [(1, 2), (0, 1)])
        self.told(PAIR, (4, (1, 2), (0, 0)), [(1, 2), (1, 2)])
        self.told(PAIR_FALLS, (22, (7, 2), (0, 0)), [(7, 11), (4, 11)])
        self.told(LONE, (1, (1,), (0,)), [(1, 1)])
        self.told(ALWAYS, (2, (1, 0, -1), (-17, 0, 19)), [(3, 2), (0, 1), (-9, 14)])

    def test_below_0_and_above_1(self):
        self.told(PAIR, (4, (-1, 5), (8, -7)), [(-1, 2), (5, 4)])
        self.told(THREE, (1, (1, 1, 1), (-11, 3, 4)), [(1, 1), (1, 7), (3, 7)])

    def test_as_the_point_tells(self):
        for web, lot in lots_of_all_kinds(30):
            for a in range(len(web[0])):
                told = left_alone(self, told_share, web, lot, a)
                self.assertIs(is_fraction(told), True)
                self.assertEqual(told, as_pair(Fraction(web[3][0] * weight_of(web, a) * lot[1][a],
                                                        lot[0] * sum(web[2]))))


class EndsOfTest(unittest.TestCase):
    def told(self, web, lot, ends):
        self.assertIs(is_lot(web, lot), True)
        self.assertEqual([left_alone(self, ends_of, web, lot, a) for a in range(len(web[0]))], ends)

    def test_no_rest_below_0(self):
        self.told(PAIR, (4, (0, 0), (4, 0)), [((0, 1), (1, 1)), ((0, 1), (1, 1))])
        self.told(PAIR, (4, (1, 0), (0, 2)), [((1, 2), (1, 1)), ((0, 1), (1, 2))])

    def test_no_rest(self):
        self.told(PAIR, (4, (1, 2), (0, 0)), [((1, 2), (1, 2)), ((1, 2), (1, 2))])

    def test_rests_of_either_sign(self):
        self.told(PAIR, (4, (-1, 5), (8, -7)), [((-9, 4), (3, 2)), ((-1, 2), (13, 4))])

    def test_no_rest_above_0(self):
        self.told(PAIR, (1, (2, 5), (-7, -1)), [((-4, 1), (4, 1)), ((-3, 1), (5, 1))])

    def test_as_the_point_tells(self):
        kinds = set()
        for web, lot in lots_of_all_kinds(31):
            bottom = lot[0] * sum(web[2])
            below = sum(min(number, 0) for number in lot[2])
            above = sum(max(number, 0) for number in lot[2])
            kinds.add((below < 0, above > 0))
            for a in range(len(web[0])):
                told = left_alone(self, ends_of, web, lot, a)
                middle = Fraction(*told_share(web, lot, a))
                self.assertEqual(told, (as_pair(middle + Fraction(below, bottom)),
                                        as_pair(middle + Fraction(above, bottom))))
                self.assertTrue(is_fraction(told[0]) and is_fraction(told[1]))
        self.assertEqual(len(kinds), 4)

    def test_each_share_lies_between(self):
        for web, lot in lots_of_all_kinds(32):
            for a, share in enumerate(shares_by_elimination(web)):
                low, high = ends_of(web, lot, a)
                self.assertLessEqual(Fraction(*low), share)
                self.assertLessEqual(share, Fraction(*high))

    def test_by_the_exact_lot_all_are_the_share(self):
        for web in all_webs():
            lot = exact_lot(web)
            for a in range(len(web[0])):
                share = share_of(shares_of(web), a)
                self.assertEqual(told_share(web, lot, a), share)
                self.assertEqual(ends_of(web, lot, a), (share, share))

    def test_asked_behind_another_web(self):
        lot = lot_by(PAIR, 5, (3, -2))
        first = (told_share(PAIR, lot, 0), ends_of(PAIR, lot, 1))
        other = lot_by(PAIR_FALLS, 5, (3, -2))
        told_share(PAIR_FALLS, other, 0)
        ends_of(PAIR_FALLS, other, 1)
        self.assertEqual((told_share(PAIR, lot, 0), ends_of(PAIR, lot, 1)), first)


if __name__ == "__main__":
    unittest.main()
