import unittest
from fractions import Fraction

from leapranks.fractions import is_fraction
from leapranks.inflows import comes_in
from leapranks.shares import shares_of
from tests.examples import (ALWAYS, HUGE, LONE, PAIR, PAIR_FALLS, TEN, THREE, THREE_FALLS, TWO_ISLES, Numbers, all_webs,
                            left_alone, some_split)
from tests.test_parts import all_parts, closed_by_the_point
from tests.walks import as_pair, chances_from, parts_of, shares_by_elimination


def some_parts(numbers, web, many):
    parts = all_parts(web)
    return [parts[numbers.below(len(parts))] for k in range(many)]


class ComesInTest(unittest.TestCase):
    def told(self, web, split, part, one):
        self.assertEqual(left_alone(self, comes_in, web, split, part), one)

    def test_by_hand(self):
        self.told(PAIR, ((1, 1), 2), (1,), (1, 2))
        self.told(PAIR, ((1, 1), 2), (0,), (0, 1))
        self.told(PAIR_FALLS, ((1, 1), 2), (0,), (3, 8))
        self.told(PAIR_FALLS, ((7, 4), 11), (0,), (3, 11))
        self.told(PAIR_FALLS, ((7, 4), 11), (1,), (7, 11))

    def test_of_all_places_nought(self):
        numbers = Numbers(170)
        for web in all_webs():
            many = len(web[0])
            self.told(web, some_split(numbers, many), tuple(range(many)), (0, 1))
            self.told(web, shares_of(web), tuple(range(many)), (0, 1))
        self.told(LONE, ((1,), 1), (0,), (0, 1))

    def test_single_places(self):
        self.told(THREE, ((1, 1, 1), 3), (0,), (1, 3))
        self.told(THREE, ((1, 1, 1), 3), (1,), (2, 21))
        self.told(THREE, ((1, 1, 1), 3), (2,), (4, 21))
        self.told(THREE, ((1, 0, 0), 1), (0,), (0, 1))

    def test_places_that_stay_or_fall(self):
        # From two one stays, or falls by (0, 6, 1).
        self.told(THREE, ((0, 1, 0), 1), (0, 2), (0, 1))
        self.told(THREE_FALLS, ((0, 1, 0), 1), (0, 2), (1, 7))
        self.told(THREE_FALLS, ((0, 1, 0), 1), (1,), (0, 1))
        self.told(THREE_FALLS, ((1, 0, 1), 2), (1,), (1, 7))

    def test_closed_parts(self):
        self.told(TWO_ISLES, ((1, 1, 1, 1), 4), (0, 1), (0, 1))
        self.told(TWO_ISLES, ((0, 0, 1, 1), 2), (0, 1), (0, 1))
        self.told(TWO_ISLES, ((1, 2, 3, 4), 10), (1, 2), (1, 2))

    def test_leaps_do_not_count(self):
        self.told(ALWAYS, ((0, 1, 0), 1), (0, 2), (1, 7))

    def test_as_the_point_tells(self):
        numbers = Numbers(171)
        for web in all_webs():
            many = len(web[0])
            for part in some_parts(numbers, web, 6):
                for split in (some_split(numbers, many), some_split(numbers, many, HUGE), shares_of(web)):
                    share = sum(parts_of(split)[a] * chances_from(web, a)[b]
                                for a in range(many) if a not in part for b in part)
                    told = left_alone(self, comes_in, web, split, part)
                    self.assertEqual(told, as_pair(Fraction(share)))
                    self.assertIs(is_fraction(told), True)

    def test_the_share_of_a_closed_part(self):
        found = 0
        for web in all_webs():
            p, q = web[3]
            shares = shares_by_elimination(web)
            for part in all_parts(web)[:200]:
                if closed_by_the_point(web, part):
                    found += len(part) < len(shares)
                    leaps = Fraction(sum(web[2][a] for a in part), sum(web[2]))
                    coming = Fraction(*comes_in(web, shares_of(web), part))
                    self.assertEqual(sum(shares[a] for a in part), leaps + Fraction(q - p, p) * coming)
        self.assertGreater(found, 100)

    def test_asked_behind_another_web(self):
        split = ((1, 2, 3), 6)
        first = comes_in(THREE, split, (1,))
        comes_in(THREE_FALLS, split, (1,))
        comes_in(TEN, ((1,) * 10, 10), (1, 2))
        self.told(THREE, split, (1,), first)


if __name__ == "__main__":
    unittest.main()
