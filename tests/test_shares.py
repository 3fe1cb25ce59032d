import unittest
from fractions import Fraction

from leapranks.rounds import after, bound_behind, one_round
from leapranks.shares import lets_shares, shares_of
from leapranks.splits import gap, is_split
from tests.examples import (ALWAYS, LONE, LONE_LOOP, OF_ANY_KIND, PAIR, PAIR_FALLS, TEN_BARE, THREE, TWO_ISLES,
                            Numbers, all_webs, left_alone, some_split, with_part)
from tests.walks import parts_of, shares_by_elimination


class SharesOfTest(unittest.TestCase):
    def test_by_hand(self):
        for web, told in ((PAIR, ((1, 1), 2)), (PAIR_FALLS, ((7, 4), 11)), (LONE, ((1,), 1)), (LONE_LOOP, ((1,), 1)),
                          (ALWAYS, ((2, 0, 5), 7)), (TWO_ISLES, ((0, 0, 1, 1), 2)),
                          (TEN_BARE, ((0,) * 9 + (1,), 1))):
            self.assertEqual(left_alone(self, shares_of, web), told)

    def test_a_round_leaves_them_as_they_are(self):
        for web in all_webs():
            told = left_alone(self, shares_of, web)
            self.assertIs(is_split(len(web[0]), told), True)
            self.assertEqual(one_round(web, told), told)

    def test_as_python_reckons(self):
        for web in all_webs():
            self.assertEqual(parts_of(shares_of(web)), shares_by_elimination(web))

    def test_rounds_come_as_near_as_is_told(self):
        numbers = Numbers(12)
        for web in all_webs():
            start = some_split(numbers, len(web[0]))
            for many in (0, 1, 4, 8):
                apart = Fraction(*gap(after(web, start, many), shares_of(web)))
                self.assertLessEqual(apart, Fraction(*bound_behind(web, many)))

    def test_asked_behind_another_web(self):
        first = shares_of(THREE)
        shares_of(PAIR)
        self.assertEqual(shares_of(THREE), first)


class LetsSharesTest(unittest.TestCase):
    def told(self, web, thing, answer):
        with self.subTest(web=web, thing=thing):
            self.assertIs(left_alone(self, lets_shares, web, thing), answer)

    def test_the_shares(self):
        for web in all_webs():
            self.told(web, shares_of(web), True)

    def test_near_them(self):
        for web in all_webs():
            numbers, total = shares_of(web)
            for a, number in enumerate(numbers):
                for step in (-1, 1):
                    moved = with_part(numbers, a, number + step)
                    self.told(web, (moved, total), False)
                    self.told(web, (moved, total + step), False)
            self.told(web, (numbers, total + 1), False)
            self.told(web, (numbers, total - 1), False)
            for times in (-1, 0, 2, 3, 10 ** 30):
                self.told(web, (tuple(times * number for number in numbers), times * total), False)

    def test_two_exchanged(self):
        for web in all_webs():
            numbers, total = shares_of(web)
            for a, number in enumerate(numbers[1:]):
                other = with_part(with_part(numbers, a, number), a + 1, numbers[a])
                self.told(web, (other, total), other == numbers)

    def test_truths_and_texts(self):
        self.told(LONE, ((True,), 1), False)
        self.told(LONE, ((1,), True), False)
        self.told(TWO_ISLES, ((False, 0, 1, 1), 2), False)
        self.told(TWO_ISLES, ((0, 0, True, True), 2), False)
        self.told(PAIR, (("1", "1"), 2), False)
        self.told(PAIR, ((1, 1), "2"), False)

    def test_other_forms(self):
        for web in (LONE, PAIR, THREE):
            numbers, total = shares_of(web)
            for thing in ([numbers, total], (list(numbers), total), (numbers,), (numbers, total, total), (total, numbers),
                          (numbers + (0,), total), (numbers[1:], sum(numbers[1:])), numbers + (total,), (numbers, None)):
                self.told(web, thing, False)

    def test_of_anything(self):
        for thing in OF_ANY_KIND:
            self.told(THREE, thing, False)
            self.told(LONE, thing, thing == ((1,), 1))

    def test_other_splits(self):
        numbers = Numbers(13)
        for web in all_webs():
            split = some_split(numbers, len(web[0]))
            self.told(web, split, split == shares_of(web))


if __name__ == "__main__":
    unittest.main()
