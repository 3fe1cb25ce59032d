import unittest
from fractions import Fraction

from leapranks.fractions import is_fraction
from leapranks.near import lets_near, nearness_of
from leapranks.rounds import after, bound_behind
from leapranks.shares import shares_of
from tests.examples import (ALWAYS, HUGE, LONE, OF_ANY_KIND, PAIR, PAIR_FALLS, TEN, THREE, Numbers, all_webs, left_alone,
                            some_split, with_part)
from tests.walks import as_pair, distance, parts_of, shares_by_elimination, turned_once


def splits_of_all_kinds(seed):
    """Tuples (web, split): all walkers at one place, some of them everywhere, of two hundred figures."""
    numbers = Numbers(seed)
    for web in all_webs():
        many = len(web[0])
        yield web, ((0,) * (many - 1) + (1,), 1)
        yield web, ((1,) * many, many)
        yield web, some_split(numbers, many)
        yield web, some_split(numbers, many, HUGE)
        yield web, after(web, some_split(numbers, many), 5)


class NearnessOfTest(unittest.TestCase):
    def told(self, web, split, bound):
        self.assertEqual(left_alone(self, nearness_of, web, split), bound)

    def test_by_hand(self):
        self.told(PAIR, ((1, 0), 1), (2, 1))
        self.told(PAIR, ((0, 1), 1), (2, 1))
        self.told(PAIR, ((3, 1), 4), (1, 1))
        self.told(PAIR_FALLS, ((1, 1), 2), (3, 4))
        self.told(LONE, ((1,), 1), (0, 1))

    def test_of_the_shares_nought(self):
        for web in all_webs():
            self.told(web, shares_of(web), (0, 1))

    def test_nought_of_the_shares_alone(self):
        for web, split in splits_of_all_kinds(100):
            self.assertEqual(nearness_of(web, split) == (0, 1), split == shares_of(web))

    def test_always_leaping(self):
        self.told(ALWAYS, ((2, 0, 5), 7), (0, 1))
        self.told(ALWAYS, ((1, 0, 0), 1), (10, 7))
        self.told(ALWAYS, ((0, 1, 0), 1), (2, 1))

    def test_as_the_point_tells(self):
        for web, split in splits_of_all_kinds(101):
            bound = left_alone(self, nearness_of, web, split)
            self.assertIs(is_fraction(bound), True)
            p, q = web[3]
            parts = parts_of(split)
            self.assertEqual(bound, as_pair(distance(parts, turned_once(web, parts)) * q / p))

    def test_the_shares_are_so_near(self):
        for web, split in splits_of_all_kinds(102):
            bound = Fraction(*nearness_of(web, split))
            parts, shares = parts_of(split), shares_by_elimination(web)
            self.assertLessEqual(distance(parts, shares), bound)
            for one, other in zip(parts, shares):
                self.assertLessEqual(2 * abs(one - other), bound)

    def test_rounds_come_as_near_as_is_told(self):
        for web, split in splits_of_all_kinds(103):
            for many in (0, 1, 6):
                apart = distance(parts_of(after(web, split, many)), shares_by_elimination(web))
                self.assertLessEqual(apart, Fraction(*bound_behind(web, many)))

    def test_asked_behind_another_web(self):
        first = nearness_of(THREE, ((1, 1, 1), 3))
        nearness_of(ALWAYS, ((1, 1, 1), 3))
        self.told(THREE, ((1, 1, 1), 3), first)


class LetsNearTest(unittest.TestCase):
    def told(self, web, thing, answer):
        with self.subTest(thing=thing):
            self.assertIs(left_alone(self, lets_near, web, thing), answer)

    def test_the_least_bound(self):
        for web, split in splits_of_all_kinds(104):
            least = Fraction(*nearness_of(web, split))
            self.told(web, (split, as_pair(least)), True)
            for less in (Fraction(1, 10 ** 199), Fraction(1, 7), Fraction(1)):
                self.told(web, (split, as_pair(least + less)), True)
                self.told(web, (split, as_pair(least - less)), False)
            self.told(web, (split, as_pair(least * Fraction(HUGE + 1, HUGE))), True)
            self.told(web, (split, as_pair(least * Fraction(HUGE - 1, HUGE))), least == 0)

    def test_of_the_shares(self):
        for web in all_webs():
            shares = shares_of(web)
            self.told(web, (shares, (0, 1)), True)
            self.told(web, (shares, (1, HUGE)), True)
            self.told(web, (shares, (-1, HUGE)), False)
            self.told(web, (shares, (-1, 1)), False)

    def test_always_leaping(self):
        self.told(ALWAYS, (((1, 0, 0), 1), (10, 7)), True)
        self.told(ALWAYS, (((1, 0, 0), 1), (9, 7)), False)
        self.told(ALWAYS, (((0, 1, 0), 1), (2, 1)), True)
        self.told(ALWAYS, (((0, 1, 0), 1), (2 * HUGE - 1, HUGE)), False)

    def test_bounds_that_are_no_fractions(self):
        split = ((3, 1), 4)
        self.told(PAIR, (split, (1, 1)), True)
        for bound in ((2, 2), (4, 2), (-1, -1), (1, 0), (3, 0), (True, 1), (1, True), (True, True), [1, 1], (1,), (1, 1, 1),
                      1, 2, "1", "1/1", None, True, ("1", "1"), ((1, 1),), {}, (-2, 1), (-1, 1), (2, -1)):
            self.told(PAIR, (split, bound), False)
        for bound in ((0, 2), (False, 1), (0, True), (0, 0), 0, False, [0, 1], (0,)):
            self.told(PAIR, (((1, 1), 2), bound), False)

    def test_splits_that_are_none(self):
        bound = (2, 1)
        self.told(PAIR, (((1, 0), 1), bound), True)
        for split in (((2, 0), 2), ((1, 0), 2), ((True, 0), 1), ((1, False), 1), ((1, 0), True), ([1, 0], 1), [(1, 0), 1],
                      ((1, 0, 0), 1), ((1,), 1), ((0, 0), 0), ((-1, 2), 1), ((2, -1), 1), ((1, 0),), ((1, 0), 1, 1), (1, 0),
                      None, "10", {}, ()):
            self.told(PAIR, (split, bound), False)

    def test_parts_more_or_fewer(self):
        split, bound = ((1, 0), 1), (2, 1)
        for thing in ([split, bound], (split,), (split, bound, bound), (bound, split), (split, split), (bound, bound), split,
                      bound, ((split, bound),), {0: split, 1: bound}, ()):
            self.told(PAIR, thing, False)

    def test_splits_of_other_many(self):
        for web in (LONE, PAIR, THREE, TEN):
            for many in (1, 2, 3, 10):
                self.told(web, (((1,) * many, many), (2 * 12, 1)), len(web[0]) == many)

    def test_of_anything(self):
        for thing in OF_ANY_KIND:
            for web in (LONE, PAIR, ALWAYS):
                self.told(web, thing, False)
                # Two of these things are splits themselves.
                self.told(web, (thing, (2, 1)), (web, thing) in ((LONE, ((1,), 1)), (PAIR, ((1, 0), 1))))
                self.told(web, (thing, thing), False)
            self.told(PAIR, (((1, 1), 2), thing), thing == (1, 2))

    def test_asked_behind_another_web(self):
        thing = (((1, 0), 1), (2, 1))
        other = with_part(PAIR, 3, (1, 9))
        for turn in range(2):
            self.told(PAIR, thing, True)
            self.told(other, (thing[0], (16, 1)), True)
            self.told(other, thing, False)


if __name__ == "__main__":
    unittest.main()
