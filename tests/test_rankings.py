import itertools
import unittest
from fractions import Fraction

from leapranks.ends import ends_of
from leapranks.exact import exact_lot
from leapranks.lots import begun, is_lot, lot_by
from leapranks.rankings import is_ranking, ranking_of, surely_ahead
from leapranks.shares import shares_of
from tests.examples import (HUGE, LONE, OF_ANY_KIND, PAIR, PAIR_FALLS, TEN, TEN_BARE, THREE, TWO_ISLES, Numbers,
                            all_webs, left_alone, some_split)
from tests.test_ends import lots_of_all_kinds


class IsRankingTest(unittest.TestCase):
    def told(self, many, thing, answer):
        with self.subTest(many=many, thing=thing):
            self.assertIs(left_alone(self, is_ranking, many, thing), answer)

    def test_rankings(self):
        self.told(1, (0,), True)
        for many in (2, 3, 4):
            for ranking in itertools.permutations(range(many)):
                self.told(many, ranking, True)
        self.told(10, tuple(range(10)), True)
        self.told(10, (9, 0, 8, 1, 7, 2, 6, 3, 5, 4), True)

    def test_truths(self):
        self.told(1, (False,), False)
        self.told(2, (False, True), False)
        self.told(2, (True, 0), False)
        self.told(2, (1, False), False)
        self.told(3, (2, True, 0), False)

    def test_not_each_once(self):
        self.told(2, (0, 0), False)
        self.told(2, (1, 1), False)
        self.told(3, (0, 1, 1), False)
        self.told(3, (0, 1, 3), False)
        self.told(3, (1, 2, 3), False)
        self.told(3, (-1, 0, 1), False)
        self.told(3, (0, 1, HUGE), False)
        self.told(1, (1,), False)

    def test_too_many_or_too_few(self):
        for many in range(1, 11):
            self.told(many, tuple(range(many)), True)
            self.told(many, tuple(range(many + 1)), False)
            self.told(many, tuple(range(many - 1)), False)
            self.told(many, tuple(range(many)) + (0,), False)

    def test_one_to_ten_places(self):
        self.told(0, (), False)
        self.told(11, tuple(range(11)), False)

    def test_other_kinds(self):
        for thing in ([0, 1], "01", ("0", "1"), {0: 0, 1: 1}, (0, None), (0, (1,)), ((0, 1),), (0, [1]), None, 1):
            self.told(2, thing, False)

    def test_of_anything(self):
        for many in range(1, 11):
            for thing in OF_ANY_KIND:
                self.told(many, thing, False)


class RankingOfTest(unittest.TestCase):
    def told(self, split, ranking):
        self.assertEqual(left_alone(self, ranking_of, split), ranking)

    def test_by_hand(self):
        self.told(((1,), 1), (0,))
        self.told(((2, 1), 3), (0, 1))
        self.told(((1, 2), 3), (1, 0))
        self.told(((0, 5, 2), 7), (1, 2, 0))
        self.told(((0, 1, 2, 3, 4, 5, 6, 7, 8, 9), 45), (9, 8, 7, 6, 5, 4, 3, 2, 1, 0))
        self.told(((HUGE, HUGE + 1), 2 * HUGE + 1), (1, 0))

    def test_alike_shares(self):
        self.told(((1, 1), 2), (0, 1))
        self.told(((1, 1, 1), 3), (0, 1, 2))
        self.told(((1, 2, 1, 2), 6), (1, 3, 0, 2))
        self.told(((0, 0, 1, 0), 1), (2, 0, 1, 3))
        self.told(((1,) * 10, 10), tuple(range(10)))
        self.told(((0,) * 9 + (1,), 1), (9, 0, 1, 2, 3, 4, 5, 6, 7, 8))

    def test_of_webs(self):
        self.told(shares_of(PAIR), (0, 1))
        self.told(shares_of(PAIR_FALLS), (0, 1))
        self.told(shares_of(TEN_BARE), (9, 0, 1, 2, 3, 4, 5, 6, 7, 8))
        self.told(shares_of(TWO_ISLES), (2, 3, 0, 1))

    def test_as_the_point_tells(self):
        numbers = Numbers(37)
        for turn in range(200):
            many = numbers.between(1, 10)
            split = some_split(numbers, many, numbers.between(1, 20))
            ranking = left_alone(self, ranking_of, split)
            self.assertIs(is_ranking(many, ranking), True)
            for ahead, behind in itertools.combinations(ranking, 2):
                one, other = split[0][ahead], split[0][behind]
                self.assertTrue(one > other or (one == other and ahead < behind))


class SurelyAheadTest(unittest.TestCase):
    def told(self, web, lot, pairs):
        self.assertIs(is_lot(web, lot), True)
        self.assertEqual(left_alone(self, surely_ahead, web, lot), pairs)

    def test_by_hand(self):
        self.told(PAIR, (4, (0, 0), (4, 0)), [])
        self.told(PAIR_FALLS, (22, (7, 2), (0, 0)), [(0, 1)])
        self.told(LONE, (1, (1,), (0,)), [])
        self.told(TEN_BARE, exact_lot(TEN_BARE), [(9, b) for b in range(9)])

    def test_ends_that_are_alike(self):
        # The low end of left is 1 of 2, so is the high end of right.
        self.told(PAIR, (4, (1, 0), (0, 2)), [])
        self.told(PAIR, (4, (1, 2), (0, 0)), [])
        self.told(TWO_ISLES, exact_lot(TWO_ISLES), [(2, 0), (2, 1), (3, 0), (3, 1)])

    def test_just_ahead(self):
        self.told(PAIR_FALLS, (220, (69, 20), (4, -2)), [(0, 1)])

    def test_as_the_point_tells(self):
        found = 0
        for web, lot in lots_of_all_kinds(38):
            places = range(len(web[0]))
            ends = [[Fraction(*end) for end in ends_of(web, lot, a)] for a in places]
            pairs = sorted((a, b) for a in places for b in places if ends[a][0] > ends[b][1])
            self.told(web, lot, pairs)
            found += len(pairs)
            shares = shares_of(web)[0]
            self.assertTrue(all(shares[a] > shares[b] for a, b in pairs))
        self.assertGreater(found, 100)

    def test_the_exact_lot_tells_all(self):
        for web in all_webs():
            numbers = shares_of(web)[0]
            places = range(len(numbers))
            self.told(web, exact_lot(web), [(a, b) for a in places for b in places if numbers[a] > numbers[b]])

    def test_the_told_list_is_the_askers_own(self):
        lot = exact_lot(TEN)
        first = surely_ahead(TEN, lot)
        kept = list(first)
        first.append((0, 0))
        first[0] = None
        surely_ahead(THREE, begun(THREE, 9))
        self.assertEqual(surely_ahead(TEN, lot), kept)
        self.assertEqual(surely_ahead(PAIR, lot_by(PAIR, 4, (0, 0))), [])


if __name__ == "__main__":
    unittest.main()
