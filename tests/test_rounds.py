import unittest
from fractions import Fraction

from leapranks.rounds import after, bound_behind, one_round
from leapranks.splits import gap, is_split
from tests.examples import (ALWAYS, HUGE, LONE, LONE_LOOP, PAIR, PAIR_FALLS, TEN_BARE, THREE, THREE_FALLS, TWO_ISLES,
                            Numbers, all_webs, left_alone, some_split)
from tests.walks import as_pair, parts_of, turned_once


class OneRoundTest(unittest.TestCase):
    def told(self, web, split, behind):
        self.assertEqual(left_alone(self, one_round, web, split), behind)

    def test_by_ties(self):
        self.told(PAIR, ((1, 0), 1), ((1, 1), 2))
        self.told(THREE, ((1, 0, 0), 1), ((4, 4, 13), 21))
        self.told(THREE, ((0, 0, 1), 1), ((16, 0, 5), 21))

    def test_by_falls(self):
        self.told(PAIR_FALLS, ((0, 1), 1), ((7, 1), 8))
        self.told(THREE_FALLS, ((0, 1, 0), 1), ((1, 3, 3), 7))

    def test_of_places_that_stay(self):
        self.told(PAIR, ((0, 1), 1), ((1, 1), 2))
        self.told(THREE, ((0, 1, 0), 1), ((2, 14, 5), 21))
        self.told(TEN_BARE, ((1,) * 10, 10), ((9,) * 9 + (29,), 110))

    def test_of_always_leaping(self):
        for split in (((1, 0, 0), 1), ((0, 1, 0), 1), ((3, 4, 5), 12)):
            self.told(ALWAYS, split, ((2, 0, 5), 7))

    def test_of_one_place(self):
        self.told(LONE, ((1,), 1), ((1,), 1))
        self.told(LONE_LOOP, ((1,), 1), ((1,), 1))

    def test_as_python_reckons(self):
        numbers = Numbers(8)
        for web in all_webs():
            many = len(web[0])
            for most in (1, 20, 10 ** 30, HUGE):
                split = some_split(numbers, many, most)
                told = left_alone(self, one_round, web, split)
                self.assertIs(is_split(many, told), True)
                self.assertEqual(parts_of(told), turned_once(web, parts_of(split)))


class AfterTest(unittest.TestCase):
    def test_none_one_and_eight(self):
        numbers = Numbers(9)
        for web in all_webs():
            split = some_split(numbers, len(web[0]))
            self.assertEqual(left_alone(self, after, web, split, 0), split)
            self.assertEqual(left_alone(self, after, web, split, 1), one_round(web, split))
            step = split
            for turn in range(8):
                step = one_round(web, step)
            self.assertEqual(left_alone(self, after, web, split, 8), step)

    def test_by_hand(self):
        self.assertEqual(after(PAIR, ((1, 0), 1), 2), ((1, 1), 2))
        self.assertEqual(after(PAIR, ((0, 1), 1), 2), ((1, 1), 2))
        self.assertEqual(after(TWO_ISLES, ((1, 0, 0, 0), 1), 1), ((0, 10, 1, 1), 12))
        self.assertEqual(after(TWO_ISLES, ((1, 0, 0, 0), 1), 2), ((50, 0, 11, 11), 72))

    def test_two_hundred_figures(self):
        split = ((HUGE, 0, HUGE + 1), 2 * HUGE + 1)
        parts = parts_of(split)
        for turn in range(8):
            parts = turned_once(THREE_FALLS, parts)
        self.assertEqual(parts_of(after(THREE_FALLS, split, 8)), parts)


class BoundTest(unittest.TestCase):
    def test_behind_none(self):
        for web in all_webs():
            self.assertEqual(left_alone(self, bound_behind, web, 0), (2, 1))

    def test_by_hand(self):
        self.assertEqual(bound_behind(PAIR, 1), (1, 1))
        self.assertEqual(bound_behind(PAIR, 3), (1, 4))
        self.assertEqual(bound_behind(THREE, 2), (8, 9))
        self.assertEqual(bound_behind(THREE_FALLS, 2), (1, 2))
        self.assertEqual(bound_behind(LONE_LOOP, 1), (11, 6))

    def test_behind_sixty(self):
        self.assertEqual(bound_behind(PAIR, 60), (1, 2 ** 59))
        self.assertEqual(bound_behind(LONE_LOOP, 60), (11 ** 60, 2 ** 119 * 3 ** 60))

    def test_always_leaping(self):
        for many in (1, 2, 60):
            self.assertEqual(left_alone(self, bound_behind, ALWAYS, many), (0, 1))
            self.assertEqual(left_alone(self, bound_behind, LONE, many), (0, 1))

    def test_as_python_reckons(self):
        for web in all_webs():
            for many in (1, 2, 5, 17):
                self.assertEqual(bound_behind(web, many), as_pair(2 * (1 - Fraction(*web[3])) ** many))


class NearerTest(unittest.TestCase):
    def test_a_round_draws_two_splits_nearer(self):
        numbers = Numbers(10)
        for web in all_webs():
            kept = 1 - Fraction(*web[3])
            for turn in range(4):
                one, other = (some_split(numbers, len(web[0])) for k in range(2))
                ahead = Fraction(*gap(one, other))
                behind = Fraction(*gap(one_round(web, one), one_round(web, other)))
                self.assertLessEqual(behind, kept * ahead)

    def test_no_beginnings_are_farther_apart_than_the_bound(self):
        for web in all_webs():
            many = len(web[0])
            starts = [(tuple(int(b == a) for b in range(many)), 1) for a in range(many)]
            for turns in (0, 1, 3):
                bound = Fraction(*bound_behind(web, turns))
                ends = [after(web, start, turns) for start in starts]
                for end in ends:
                    self.assertLessEqual(Fraction(*gap(ends[0], end)), bound)


if __name__ == "__main__":
    unittest.main()
