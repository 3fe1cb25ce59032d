import math
import unittest

from leapranks.columns import column_of
from leapranks.exact import exact_lot
from leapranks.lots import begun, is_lot, joined, lot_by
from leapranks.rows import weight_of
from tests.examples import (ALWAYS, HUGE, LONE, OF_ANY_KIND, PAIR, PAIR_FALLS, THREE, THREE_FALLS, TEN, Numbers,
                            all_webs, left_alone, with_part)
from tests.walks import shares_by_elimination


def some_goings(numbers, many, most):
    return tuple(numbers.between(-most, most) for k in range(many))


def rests_by_the_point(web, grains, goings):
    places = range(len(goings))
    return tuple(grains * web[2][j] - sum(goings[a] * column_of(web, a)[j] for a in places) for j in places)


class IsLotTest(unittest.TestCase):
    def told(self, web, thing, answer):
        with self.subTest(web=web, thing=thing):
            self.assertIs(left_alone(self, is_lot, web, thing), answer)

    def test_by_hand(self):
        self.told(PAIR, (4, (0, 0), (4, 0)), True)
        self.told(PAIR, (4, (1, 0), (0, 2)), True)
        self.told(PAIR, (4, (1, 2), (0, 0)), True)
        self.told(PAIR, (4, (-1, 5), (8, -7)), True)
        self.told(PAIR_FALLS, (1, (0, 1), (4, -7)), True)
        self.told(THREE, (1, (1, 1, 1), (-11, 3, 4)), True)
        self.told(ALWAYS, (2, (1, 0, -1), (-17, 0, 19)), True)
        self.told(LONE, (1, (1,), (0,)), True)

    def test_near_those_that_fit(self):
        numbers = Numbers(14)
        for web in all_webs():
            many = len(web[0])
            goings = some_goings(numbers, many, 50)
            lot = (9, goings, rests_by_the_point(web, 9, goings))
            self.told(web, lot, True)
            for step in (-1, 1):
                self.told(web, with_part(lot, 0, 9 + step), False)
                for a in range(many):
                    self.told(web, with_part(lot, 1, with_part(goings, a, goings[a] + step)), False)
                    self.told(web, with_part(lot, 2, with_part(lot[2], a, lot[2][a] + step)), False)

    def test_grains(self):
        self.told(PAIR, (1, (0, 0), (1, 0)), True)
        self.told(PAIR, (0, (0, 0), (0, 0)), False)
        self.told(PAIR, (-1, (0, 0), (-1, 0)), False)
        self.told(PAIR, (0, (1, 0), (-4, 2)), False)

    def test_truths(self):
        self.told(PAIR, (True, (0, 0), (1, 0)), False)
        self.told(PAIR, (1, (False, 0), (1, 0)), False)
        self.told(PAIR, (1, (0, 0), (True, 0)), False)
        self.told(PAIR, (1, (0, 0), (1, False)), False)

    def test_great_numbers(self):
        for size in (10 ** 30, 10 ** 31 + 7, HUGE):
            goings = (size, -size + 3, size // 2)
            lot = (size + 1, goings, rests_by_the_point(THREE_FALLS, size + 1, goings))
            self.told(THREE_FALLS, lot, True)
            self.told(THREE_FALLS, with_part(lot, 0, size + 2), False)

    def test_other_forms(self):
        for thing in ([1, (0, 0), (1, 0)], (1, [0, 0], (1, 0)), (1, (0, 0), [1, 0]), (1, (0, 0)), ((0, 0), (1, 0)),
                      (1, (0, 0), (1, 0), ()), (1, (0, 0, 0), (1, 0)), (1, (0, 0), (1, 0, 0)), (1, (0,), (1, 0)),
                      (1, (0, 0), (1,)), (1, (0, 0, 0), (1, 0, 0)), ("1", (0, 0), (1, 0)), (1, ("0", 0), (1, 0)),
                      (1, (0, 0), (1, None)), (None, (0, 0), (1, 0)), (1, None, (1, 0)), (1, (0, 0), None),
                      (1, {}, {}), (1, "00", "10")):
            self.told(PAIR, thing, False)

    def test_of_anything(self):
        for web in (PAIR, LONE, THREE):
            for thing in OF_ANY_KIND:
                self.told(web, thing, False)


class LotByTest(unittest.TestCase):
    def test_by_hand(self):
        for web, lot in ((PAIR, (4, (1, 2), (0, 0))), (PAIR, (4, (-1, 5), (8, -7))),
                         (PAIR_FALLS, (1, (0, 1), (4, -7))), (THREE, (1, (1, 1, 1), (-11, 3, 4)))):
            self.assertEqual(left_alone(self, lot_by, web, lot[0], lot[1]), lot)

    def test_as_the_point_tells(self):
        numbers = Numbers(15)
        for web in all_webs():
            for most in (3, 10 ** 30, HUGE):
                goings = some_goings(numbers, len(web[0]), most)
                grains = numbers.between(1, most)
                lot = left_alone(self, lot_by, web, grains, goings)
                self.assertEqual(lot, (grains, goings, rests_by_the_point(web, grains, goings)))
                self.assertIs(is_lot(web, lot), True)

    def test_asked_behind_another_web(self):
        first = lot_by(THREE, 5, (1, 2, 3))
        lot_by(THREE_FALLS, 5, (1, 2, 3))
        self.assertEqual(lot_by(THREE, 5, (1, 2, 3)), first)


class BegunTest(unittest.TestCase):
    def test_nothing_has_gone(self):
        for web in all_webs():
            for grains in (1, 7, 10 ** 30, HUGE):
                told = left_alone(self, begun, web, grains)
                self.assertEqual(told, (grains, (0,) * len(web[0]), tuple(grains * leap for leap in web[2])))
                self.assertIs(is_lot(web, told), True)


class JoinedTest(unittest.TestCase):
    def test_by_hand(self):
        one, other = (4, (1, 0), (0, 2)), (3, (-2, 5), (11, -9))
        self.assertEqual(left_alone(self, joined, one, other), (7, (-1, 5), (11, -7)))
        self.assertEqual(joined(other, one), (7, (-1, 5), (11, -7)))

    def test_fits_where_both_do(self):
        numbers = Numbers(16)
        for web in all_webs():
            for most in (4, HUGE):
                one, other = (lot_by(web, numbers.between(1, most), some_goings(numbers, len(web[0]), most))
                              for k in range(2))
                told = left_alone(self, joined, one, other)
                self.assertIs(is_lot(web, told), True)
                self.assertEqual(told[0], one[0] + other[0])
                self.assertEqual(told[1], tuple(x + y for x, y in zip(one[1], other[1])))


class ExactLotTest(unittest.TestCase):
    def test_by_hand(self):
        self.assertEqual(left_alone(self, exact_lot, LONE), (1, (1,), (0,)))
        self.assertEqual(left_alone(self, exact_lot, PAIR), (4, (1, 2), (0, 0)))
        self.assertEqual(left_alone(self, exact_lot, PAIR_FALLS), (22, (7, 2), (0, 0)))
        self.assertEqual(left_alone(self, exact_lot, ALWAYS), (63, (6, 0, 35), (0, 0, 0)))

    def test_nothing_rests(self):
        for web in all_webs():
            told = left_alone(self, exact_lot, web)
            self.assertEqual(told[2], (0,) * len(web[0]))
            self.assertIs(is_lot(web, told), True)
            self.assertTrue(all(going >= 0 for going in told[1]))

    def test_with_the_least_grains(self):
        for web in all_webs():
            shares = shares_by_elimination(web)
            each = [share * sum(web[2]) / (web[3][0] * weight_of(web, a)) for a, share in enumerate(shares)]
            grains = math.lcm(*(one.denominator for one in each))
            self.assertEqual(exact_lot(web)[:2], (grains, tuple(int(grains * one) for one in each)))

    def test_least_grains_by_trying(self):
        for web in (LONE, PAIR, PAIR_FALLS, ALWAYS):
            grains, goings, rest = exact_lot(web)
            for fewer in range(1, grains):
                self.assertFalse(all(fewer * going % grains == 0 for going in goings))

    def test_ten_places(self):
        grains, goings, rest = exact_lot(TEN)
        self.assertEqual(rests_by_the_point(TEN, grains, goings), (0,) * 10)
        self.assertEqual(len(goings), 10)

    def test_asked_behind_another_web(self):
        first = exact_lot(TEN)
        exact_lot(THREE)
        self.assertEqual(exact_lot(TEN), first)


if __name__ == "__main__":
    unittest.main()
