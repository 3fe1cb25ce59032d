import itertools
import time
import unittest
from fractions import Fraction

from leapranks.columns import size_of
from leapranks.ends import ends_of
from leapranks.lots import begun, is_lot, joined, lot_by
from leapranks.pushes import can_push, push
from leapranks.sweeps import end_of
from leapranks.tables import table_of
from tests.examples import (ALWAYS, HUGE, LONE, PAIR, PAIR_FALLS, TEN, TEN_NAMES, THREE, THREE_FALLS, Numbers, all_webs,
                            left_alone, with_part)
from tests.test_lots import some_goings

LONG = 10 ** 35 - 1


def pushed_by_chance(numbers, web, lot):
    """The lot at which pushes in some order, by some many, end."""
    sizes = [size_of(web, a) for a in range(len(web[0]))]
    while places := [a for a, number in enumerate(lot[2]) if abs(number) >= sizes[a]]:
        a = places[numbers.below(len(places))]
        most = abs(lot[2][a]) // sizes[a]
        many = numbers.between(1, most) if numbers.below(2) else most
        lot = push(web, lot, a, -many if lot[2][a] < 0 else many)
    return lot


def pushed_one_by_one(web, lot):
    """The lot at which pushes by 1 or -1 end, always of the last place that can be pushed."""
    while can_push(web, lot):
        a = can_push(web, lot)[-1]
        lot = push(web, lot, a, -1 if lot[2][a] < 0 else 1)
    return lot


def lot_without_rests_above(web, numbers, most):
    """A lot with no rest above 0: by the table, goings are told that bring just that."""
    one, rows = table_of(web)
    asked = [30 * numbers.between(1, most) for place in web[0]]
    return lot_by(web, 1, tuple(sum(x * y for x, y in zip(row, asked)) for row in rows))


def slow_web(weight):
    """Ten places in a ring against the order of sweeps, with a chance of 1 of 12."""
    return (TEN_NAMES, tuple((a, (a - 1) % 10, weight) for a in range(10)), (1,) * 10, (1, 12), ())


class EndOfTest(unittest.TestCase):
    def told(self, web, lot):
        """The end, looked at by point 16."""
        self.assertIs(is_lot(web, lot), True)
        end = left_alone(self, end_of, web, lot)
        self.assertEqual(can_push(web, end), [])
        self.assertEqual(end[0], lot[0])
        self.assertIs(is_lot(web, end), True)
        self.assertEqual(end_of(web, end), end)
        return end

    def test_by_hand(self):
        self.assertEqual(self.told(PAIR, (4, (0, 0), (4, 0))), (4, (1, 2), (0, 0)))
        self.assertEqual(self.told(PAIR, (3, (0, 0), (3, 0))), (3, (0, 0), (3, 0)))
        self.assertEqual(self.told(PAIR, (7, (0, 0), (7, 0))), (7, (1, 2), (3, 0)))
        self.assertEqual(self.told(LONE, (9, (0,), (9,))), (9, (9,), (0,)))
        self.assertEqual(self.told(ALWAYS, (100, (0, 0, 0), (200, 0, 500))), (100, (9, 0, 55), (11, 0, 5)))
        self.assertEqual(self.told(PAIR, (1, (2, 5), (-7, -1))), (1, (1, 2), (-3, 0)))

    def test_rests_of_either_sign(self):
        numbers = Numbers(70)
        for web in all_webs():
            for most in (1, 30, 10 ** 12, 10 ** 30):
                self.told(web, lot_by(web, numbers.between(1, most), some_goings(numbers, len(web[0]), most)))

    def test_no_rest_below_0_ends_alike_in_whatever_order(self):
        numbers = Numbers(71)
        for web in all_webs():
            for grains in (1, 20, 400):
                lot = begun(web, grains)
                end = self.told(web, lot)
                self.assertTrue(all(0 <= number < size_of(web, a) for a, number in enumerate(end[2])))
                self.assertEqual(pushed_by_chance(numbers, web, lot), end)
                self.assertEqual(pushed_by_chance(numbers, web, lot), end)
            self.assertEqual(pushed_one_by_one(web, begun(web, 20)), self.told(web, begun(web, 20)))

    def test_begun_anywhere_on_the_way(self):
        numbers = Numbers(72)
        for web in (PAIR_FALLS, THREE, THREE_FALLS, TEN):
            lot = begun(web, 10 ** 6)
            end = self.told(web, lot)
            for turn in range(5):
                a = can_push(web, lot)[0]
                lot = push(web, lot, a, numbers.between(1, lot[2][a] // size_of(web, a)))
                self.assertEqual(self.told(web, lot), end)

    def test_no_rest_above_0_ends_alike_in_whatever_order(self):
        numbers = Numbers(73)
        for web in all_webs():
            lot = lot_without_rests_above(web, numbers, 3)
            self.assertTrue(all(number <= 0 for number in lot[2]))
            end = self.told(web, lot)
            self.assertEqual(pushed_by_chance(numbers, web, lot), end)
            self.assertTrue(all(-size_of(web, a) < number <= 0 for a, number in enumerate(end[2])))

    def test_rests_of_thirty_five_figures(self):
        numbers = Numbers(74)
        start = time.monotonic()
        for web in all_webs() + [slow_web(1), slow_web(30)]:
            lot = begun(web, LONG // max(web[2]))
            self.assertEqual(pushed_by_chance(numbers, web, lot), self.told(web, lot))
            self.told(web, lot_by(web, 1, (LONG // 3600,) * len(web[0])))
        self.assertLess(time.monotonic() - start, 60)

    def test_great_goings(self):
        for web in (PAIR, THREE_FALLS, TEN):
            one, rows = table_of(web)
            goings = tuple(sum(x * y for x, y in zip(row, web[2])) * HUGE for row in rows)
            for more in (0, 1, -1, 10 ** 20):
                lot = lot_by(web, one * HUGE, tuple(going + more for going in goings))
                self.told(web, lot)

    def test_ten_places_with_a_chance_of_1_of_12(self):
        for web in (TEN, slow_web(1), slow_web(7), with_part(slow_web(30), 2, (0,) * 9 + (30,))):
            start = time.monotonic()
            end_of(web, begun(web, 10 ** 33))
            end_of(web, lot_by(web, 1, tuple((-1) ** a * 10 ** 31 for a in range(10))))
            self.assertLess(time.monotonic() - start, 5)

    def test_two_joined(self):
        numbers = Numbers(75)
        for web in all_webs():
            for most in (5, 10 ** 6, 10 ** 30):
                one, other = begun(web, numbers.between(1, most)), begun(web, numbers.between(1, most))
                if can_push(web, other):
                    other = push(web, other, can_push(web, other)[0], 1)
                self.assertEqual(self.told(web, joined(one, other)),
                                 self.told(web, joined(end_of(web, one), end_of(web, other))))

    def test_the_least_goings(self):
        for web, grains in ((PAIR, 30), (PAIR_FALLS, 30), (THREE, 9), (THREE_FALLS, 9), (ALWAYS, 9), (LONE, 9)):
            end = self.told(web, begun(web, grains))
            found = 0
            for goings in itertools.product(*[range(going + 4) for going in end[1]]):
                rest = lot_by(web, grains, goings)[2]
                if all(number < size_of(web, a) for a, number in enumerate(rest)):
                    found += 1
                    self.assertTrue(all(more >= least for more, least in zip(goings, end[1])))
            self.assertGreater(found, 1)

    def test_the_ends_of_shares_at_an_end(self):
        for web in all_webs():
            for grains in (1, 1000, 10 ** 30):
                end = end_of(web, begun(web, grains))
                most = Fraction(sum(size_of(web, a) for a in range(len(web[0]))), grains * sum(web[2]))
                for a in range(len(web[0])):
                    low, high = ends_of(web, end, a)
                    self.assertLess(Fraction(*high) - Fraction(*low), most)

    def test_asked_behind_another_web(self):
        first = end_of(THREE, begun(THREE, 12345))
        end_of(THREE_FALLS, begun(THREE_FALLS, 12345))
        self.assertEqual(end_of(THREE, begun(THREE, 12345)), first)


if __name__ == "__main__":
    unittest.main()
