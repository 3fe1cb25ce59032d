import itertools
import time
import unittest

from leapranks.middles import ahead_by_most, floor_of, middle_of, sum_of
from tests.examples import Numbers, left_alone
from tests.test_apart import TEN_ROW, exchanged, pairs_apart
from tests.test_turned import some_order

RING_OF_THREE = [(0, 1, 2), (1, 2, 0), (2, 0, 1)]
# Two rankings for each pair that is neighboured in the ring 0, 1, 2, 3: they agree on this pair alone.
RING_OF_FOUR = [(0, 1, 2, 3), (3, 2, 0, 1), (1, 2, 0, 3), (3, 0, 1, 2), (2, 3, 0, 1), (1, 0, 2, 3), (3, 0, 1, 2), (2, 1, 3, 0)]
# 3 is ahead of all and 4 behind all, between them there is a ring.
RING_WITHIN = [(3, 0, 1, 2, 4), (3, 1, 2, 0, 4), (3, 2, 0, 1, 4)]


def wins(rankings, a, b):
    """In how many more rankings a stands ahead of b than behind it."""
    return sum(1 if ranking.index(a) < ranking.index(b) else -1 for ranking in rankings if a != b)


def some_rankings(numbers, places, many):
    return [some_order(numbers, places) for k in range(many)]


def lists_of_all_kinds(seed, most_places):
    numbers = Numbers(seed)
    for turn in range(150):
        yield some_rankings(numbers, numbers.between(1, most_places), numbers.between(1, 8))
    for rankings in (RING_OF_THREE, RING_OF_FOUR, RING_WITHIN):
        yield rankings


class AheadByMostTest(unittest.TestCase):
    def told(self, rankings, a, b, answer):
        self.assertIs(left_alone(self, ahead_by_most, rankings, a, b), answer)

    def test_by_hand(self):
        self.told([(0, 1)], 0, 1, True)
        self.told([(0, 1)], 1, 0, False)
        for a, b in ((0, 1), (1, 2), (2, 0)):
            self.told(RING_OF_THREE, a, b, True)
            self.told(RING_OF_THREE, b, a, False)

    def test_level_pairs(self):
        for a, b in ((0, 1), (1, 0)):
            self.told([(0, 1), (1, 0)], a, b, False)
            self.told([(0, 1), (1, 0), (0, 1), (1, 0)], a, b, False)
        self.told([(0, 1), (1, 0), (0, 1)], 0, 1, True)

    def test_never_of_itself(self):
        for rankings in lists_of_all_kinds(160, 10):
            for a in rankings[0]:
                self.told(rankings, a, a, False)

    def test_as_the_point_tells(self):
        for rankings in lists_of_all_kinds(161, 6):
            for a in rankings[0]:
                for b in rankings[0]:
                    self.told(rankings, a, b, wins(rankings, a, b) > 0)


class SumAndFloorTest(unittest.TestCase):
    def told(self, rankings, ranking, total, floor):
        self.assertEqual(left_alone(self, sum_of, rankings, ranking), total)
        self.assertEqual(left_alone(self, floor_of, rankings), floor)

    def test_by_hand(self):
        self.told([(0,)], (0,), 0, 0)
        self.told([(0, 1)], (1, 0), 1, 0)
        self.told([(0, 1), (1, 0)], (1, 0), 1, 1)
        self.told(RING_OF_THREE, (0, 1, 2), 4, 3)
        self.told(RING_OF_THREE, (0, 2, 1), 5, 3)
        self.told([TEN_ROW] * 8, TEN_ROW[::-1], 360, 0)
        self.told([TEN_ROW] * 4 + [TEN_ROW[::-1]] * 4, TEN_ROW, 180, 180)

    def test_as_the_point_tells(self):
        for rankings in lists_of_all_kinds(162, 10):
            many = len(rankings)
            floor = sum((many - abs(wins(rankings, a, b))) // 2 for a, b in itertools.combinations(rankings[0], 2))
            ranking = rankings[0][::-1]
            self.told(rankings, ranking, sum(pairs_apart(one, ranking) for one in rankings), floor)

    def test_no_sum_is_less_than_the_floor(self):
        for rankings in lists_of_all_kinds(163, 4):
            for ranking in itertools.permutations(range(len(rankings[0]))):
                self.assertLessEqual(floor_of(rankings), sum_of(rankings, ranking))


class MiddleOfTest(unittest.TestCase):
    def held(self, rankings):
        """Whether a row or a ring is told, held against what the point says of it."""
        told = left_alone(self, middle_of, rankings)
        kind, ranking, total = told[0], told[-2], told[-1]
        self.assertEqual(sorted(ranking), sorted(rankings[0]))
        self.assertIs(type(ranking), tuple)
        self.assertEqual(total, sum(pairs_apart(one, ranking) for one in rankings))
        if kind == "row":
            self.assertEqual(len(told), 3)
            for ahead, behind in itertools.combinations(ranking, 2):
                self.assertLessEqual(wins(rankings, behind, ahead), 0)
            self.assertEqual(total, floor_of(rankings))
        else:
            self.assertEqual((kind, len(told), type(told[1])), ("ring", 4, list))
            ring = told[1]
            self.assertGreaterEqual(len(ring), 3)
            self.assertEqual(len(set(ring)), len(ring))
            for at, place in enumerate(ring):
                self.assertGreater(wins(rankings, ring[at - 1], place), 0)
            sums = [sum_of(rankings, one) for one in rankings]
            self.assertEqual(ranking, rankings[sums.index(min(sums))])
        return kind

    def test_of_one_ranking(self):
        for ranking in ((0,), (1, 0), (2, 0, 1), TEN_ROW, TEN_ROW[::-1]):
            self.assertEqual(left_alone(self, middle_of, [ranking]), ("row", ranking, 0))

    def test_of_alike_ones(self):
        for many in range(2, 9):
            self.assertEqual(left_alone(self, middle_of, [(2, 0, 1)] * many), ("row", (2, 0, 1), 0))

    def test_level_pairs(self):
        for rankings, total in (([(0, 1), (1, 0)], 1), ([(0, 1, 2), (2, 1, 0)], 3), ([TEN_ROW, TEN_ROW[::-1]] * 4, 180)):
            self.assertEqual(self.held(rankings), "row")
            self.assertEqual(middle_of(rankings)[2], total)
        self.assertEqual(self.held([(0, 1, 2), (0, 2, 1)]), "row")
        self.assertEqual(middle_of([(0, 1, 2), (0, 2, 1)])[1][0], 0)

    def test_a_row_that_is_none_of_the_list(self):
        rankings = [exchanged(TEN_ROW, step) for step in range(8)]
        self.assertEqual(left_alone(self, middle_of, rankings), ("row", TEN_ROW, 8))

    def test_a_ring_of_three(self):
        self.assertEqual(self.held(RING_OF_THREE), "ring")
        told = middle_of(RING_OF_THREE)
        self.assertEqual(sorted(told[1]), [0, 1, 2])
        self.assertEqual(told[2:], ((0, 1, 2), 4))
        self.assertEqual(middle_of(RING_OF_THREE[1:] + RING_OF_THREE[:1])[2:], ((1, 2, 0), 4))

    def test_a_ring_of_four_alone(self):
        self.assertEqual([wins(RING_OF_FOUR, a, b) for a, b in ((0, 1), (1, 2), (2, 3), (3, 0), (0, 2), (1, 3))],
                         [2, 2, 2, 2, 0, 0])
        self.assertEqual(self.held(RING_OF_FOUR), "ring")
        self.assertEqual(sorted(middle_of(RING_OF_FOUR)[1]), [0, 1, 2, 3])

    def test_a_ring_behind_one_and_ahead_of_another(self):
        self.assertEqual(self.held(RING_WITHIN), "ring")
        self.assertEqual(sorted(middle_of(RING_WITHIN)[1]), [0, 1, 2])

    def test_of_alike_sums_the_first(self):
        rankings = [(1, 2, 0), (0, 1, 2), (2, 0, 1), (1, 2, 0), (0, 1, 2), (2, 0, 1)]
        self.assertEqual(self.held(rankings), "ring")
        self.assertEqual(middle_of(rankings)[2:], ((1, 2, 0), 8))
        unlike = RING_OF_THREE + RING_OF_THREE + [(1, 2, 0)]
        self.assertEqual(self.held(unlike), "ring")
        self.assertEqual(middle_of(unlike)[2], (1, 2, 0))

    def test_held_against_all_orders(self):
        kinds = []
        for rankings in lists_of_all_kinds(164, 5):
            kind = self.held(rankings)
            kinds.append(kind)
            many, total = len(rankings), middle_of(rankings)[-1]
            sums = [sum_of(rankings, order) for order in itertools.permutations(range(len(rankings[0])))]
            if kind == "row":
                self.assertEqual(total, min(sums))
            self.assertLessEqual(many * total, 2 * (many - 1) * min(sums))
            places = range(len(rankings[0]))
            rows = [order for order in itertools.permutations(places)
                    if all(wins(rankings, b, a) <= 0 for a, b in itertools.combinations(order, 2))]
            self.assertEqual(kind == "row", bool(rows))
        self.assertGreater(kinds.count("row"), 20)
        self.assertGreater(kinds.count("ring"), 10)

    def test_ten_places_and_eight_rankings(self):
        numbers = Numbers(165)
        start = time.monotonic()
        kinds = {middle_of(some_rankings(numbers, 10, 8))[0] for turn in range(20)}
        self.assertLess(time.monotonic() - start, 10)
        self.assertIn("ring", kinds)
        for turn in range(20):
            self.held(some_rankings(numbers, 10, 8))

    def test_what_is_told_is_the_askers_own(self):
        first = middle_of(RING_OF_THREE)
        kept = repr(first)
        first[1].clear()
        first[1].append(RING_OF_THREE)
        middle_of(RING_OF_FOUR)
        self.assertEqual(repr(middle_of(RING_OF_THREE)), kept)
        handed = list(RING_OF_THREE)
        told = middle_of(handed)
        handed.clear()
        self.assertEqual(repr(told), kept)


if __name__ == "__main__":
    unittest.main()
