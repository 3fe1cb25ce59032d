import unittest

from leapranks.changes import changed
from leapranks.ends import ends_of
from leapranks.errors import NoOrder
from leapranks.exact import exact_lot
from leapranks.lots import begun, is_lot, lot_by
from leapranks.parts import least_closed
from leapranks.rankings import is_ranking, ranking_of, surely_ahead
from leapranks.rows import row_of
from leapranks.shares import shares_of
from leapranks.splits import is_split
from leapranks.sweeps import end_of
from leapranks.tables import table_of
from leapranks.turned import turned_lot, turned_ranking, turned_split, turned_web
from leapranks.webs import is_web
from tests.examples import (HUGE, LONE, OF_ANY_KIND, PAIR, PAIR_FALLS, TEN, THREE, THREE_FALLS, Numbers, all_webs,
                            left_alone, some_split)
from tests.test_lots import some_goings

CALLS = (turned_web, turned_split, turned_lot, turned_ranking)
NO_ORDERS = (
    (True, False), (False, True), (True, 0), (0, True), (1, False), [0, 1], [1, 0], (0, 0), (1, 1), (0, 2), (1, 2),
    (-1, 0), (0, -1), (0,), (1,), (0, 1, 2), (1, 0, 2), (), ("0", "1"), "01", "10", (0, None), (None, None), ((0, 1),),
    (0, (1,)), (0, [1]), {0: 1, 1: 0}, {}, None, True, False, 0, 1, HUGE, (0, HUGE), (0, 10 ** 30))


def some_order(numbers, many):
    left = list(range(many))
    return tuple(left.pop(numbers.below(len(left))) for k in range(many))


def back_of(order):
    """The order that leads back."""
    return tuple(order.index(k) for k in range(len(order)))


def one_behind_the_other(first, second):
    return tuple(second[k] for k in first)


def things_of(numbers, web):
    """For each call a thing of as many places as the web has."""
    many = len(web[0])
    lot = lot_by(web, numbers.between(1, HUGE), some_goings(numbers, many, HUGE))
    return (web, some_split(numbers, many), lot, some_order(numbers, many))


class TurnedTest(unittest.TestCase):
    def test_by_hand(self):
        self.assertEqual(left_alone(self, turned_web, THREE, (2, 0, 1)),
                         (("two", "three", "one"), ((1, 2, 3), (2, 0, 2), (2, 1, 4), (2, 2, 1)), (0, 5, 2), (1, 3), ()))
        self.assertEqual(left_alone(self, turned_web, THREE_FALLS, (2, 0, 1)),
                         (("two", "three", "one"), ((1, 2, 3), (2, 0, 2), (2, 1, 4), (2, 2, 1)), (0, 5, 2), (2, 4),
                          (6, 1, 0)))
        self.assertEqual(left_alone(self, turned_web, PAIR_FALLS, (1, 0)),
                         (("right", "left"), ((1, 0, 2),), (0, 1), (1, 2), (1, 3)))
        self.assertEqual(left_alone(self, turned_split, ((5, 6, 7), 18), (2, 0, 1)), ((6, 7, 5), 18))
        self.assertEqual(left_alone(self, turned_lot, (4, (1, -2, HUGE), (7, 8, -9)), (2, 0, 1)),
                         (4, (-2, HUGE, 1), (8, -9, 7)))
        self.assertEqual(left_alone(self, turned_ranking, (0, 1, 2), (2, 0, 1)), (2, 0, 1))
        self.assertEqual(left_alone(self, turned_ranking, (2, 0, 1), (2, 0, 1)), (1, 2, 0))

    def test_one_place(self):
        self.assertEqual(turned_web(LONE, (0,)), LONE)
        self.assertEqual(turned_split(((1,), 1), (0,)), ((1,), 1))
        self.assertEqual(turned_lot((2, (-3,), (5,)), (0,)), (2, (-3,), (5,)))
        self.assertEqual(turned_ranking((0,), (0,)), (0,))

    def test_as_the_point_tells(self):
        numbers = Numbers(50)
        for web in all_webs():
            many = len(web[0])
            order = some_order(numbers, many)
            names, ties, leaps, chance, falls = left_alone(self, turned_web, web, order)
            self.assertIs(is_web((names, ties, leaps, chance, falls)), True)
            self.assertEqual(ties, tuple(sorted((order[a], order[b], weight) for a, b, weight in web[1])))
            self.assertEqual(chance, web[3])
            self.assertEqual(len(falls), len(web[4]))
            split, lot = some_split(numbers, many), lot_by(web, 3, some_goings(numbers, many, 99))
            turned_one = left_alone(self, turned_split, split, order)
            grains, goings, rest = left_alone(self, turned_lot, lot, order)
            self.assertIs(is_split(many, turned_one), True)
            self.assertEqual((turned_one[1], grains), (split[1], 3))
            for k in range(many):
                self.assertEqual((names[order[k]], leaps[order[k]]), (web[0][k], web[2][k]))
                self.assertEqual((turned_one[0][order[k]], goings[order[k]], rest[order[k]]),
                                 (split[0][k], lot[1][k], lot[2][k]))
                self.assertEqual(falls and falls[order[k]], web[4] and web[4][k])
            ranking = some_order(numbers, many)
            told = left_alone(self, turned_ranking, ranking, order)
            self.assertEqual([names[a] for a in told], [web[0][a] for a in ranking])
            self.assertIs(is_ranking(many, told), True)

    def test_the_order_that_leads_back(self):
        numbers = Numbers(51)
        for web in all_webs():
            order = some_order(numbers, len(web[0]))
            for call, thing in zip(CALLS, things_of(numbers, web)):
                self.assertEqual(call(call(thing, order), back_of(order)), thing)
                self.assertEqual(call(thing, tuple(range(len(web[0])))), thing)

    def test_two_one_behind_the_other(self):
        numbers = Numbers(52)
        for web in all_webs():
            first, second = some_order(numbers, len(web[0])), some_order(numbers, len(web[0]))
            for call, thing in zip(CALLS, things_of(numbers, web)):
                self.assertEqual(call(call(thing, first), second), call(thing, one_behind_the_other(first, second)))

    def test_no_falls_stay_none(self):
        self.assertEqual(turned_web(PAIR, (1, 0))[4], ())
        self.assertEqual(turned_web(TEN, (9, 8, 7, 6, 5, 4, 3, 2, 1, 0))[4], TEN[4][::-1])

    def test_refused(self):
        for call, thing in zip(CALLS, (PAIR, ((1, 2), 3), (1, (0, 0), (1, 0)), (0, 1))):
            for order in NO_ORDERS + OF_ANY_KIND:
                before = repr((thing, order))
                with self.subTest(call=call, order=order), self.assertRaises(NoOrder):
                    call(thing, order)
                self.assertEqual(repr((thing, order)), before)
            self.assertEqual(call(call(thing, (1, 0)), (1, 0)), thing)

    def test_refused_of_ten_and_of_one(self):
        for call, thing in zip(CALLS, things_of(Numbers(53), TEN)):
            for order in (tuple(range(9)), tuple(range(11)), tuple(range(1, 11)), list(range(10)), (0,) * 10,
                          tuple(range(9)) + (8,), (False, True) + tuple(range(2, 10))):
                with self.assertRaises(NoOrder):
                    call(thing, order)
        for call, thing in zip(CALLS, things_of(Numbers(54), LONE)):
            for order in ((), (1,), (False,), (0, 1), [0], "0", 0, None):
                with self.assertRaises(NoOrder):
                    call(thing, order)


class TellsTheSameTest(unittest.TestCase):
    """All that is told of a turned one is what is told, turned."""

    def pairs(self, seed):
        numbers = Numbers(seed)
        for web in all_webs():
            order = some_order(numbers, len(web[0]))
            yield numbers, web, order, turned_web(web, order)

    def test_shares_exact_lots_and_ends(self):
        for numbers, web, order, other in self.pairs(55):
            self.assertEqual(shares_of(other), turned_split(shares_of(web), order))
            self.assertEqual(exact_lot(other), turned_lot(exact_lot(web), order))
            lot = lot_by(web, 8, some_goings(numbers, len(order), 40))
            self.assertIs(is_lot(other, turned_lot(lot, order)), True)
            self.assertEqual(end_of(other, begun(other, 10 ** 9)), turned_lot(end_of(web, begun(web, 10 ** 9)), order))
            for a in range(len(order)):
                self.assertEqual(ends_of(other, turned_lot(lot, order), order[a]), ends_of(web, lot, a))
                self.assertEqual(row_of(other, order[a]),
                                 tuple(row_of(web, a)[back_of(order)[b]] for b in range(len(order))))
            self.assertEqual(surely_ahead(other, turned_lot(lot, order)),
                             sorted((order[a], order[b]) for a, b in surely_ahead(web, lot)))

    def test_tables_parts_and_changes(self):
        for numbers, web, order, other in self.pairs(56):
            one, rows = table_of(web)
            turned_rows = table_of(other)[1]
            self.assertEqual(table_of(other)[0], one)
            for a in range(len(order)):
                for i in range(len(order)):
                    self.assertEqual(turned_rows[order[a]][order[i]], rows[a][i])
            self.assertEqual(least_closed(other),
                             sorted(tuple(sorted(order[a] for a in part)) for part in least_closed(web)))
            for a, b, weight in web[1]:
                self.assertEqual(changed(other, (order[a], order[b], 0)), turned_web(changed(web, (a, b, 0)), order))

    def test_rankings(self):
        for numbers, web, order, other in self.pairs(57):
            shares = shares_of(web)
            if len(set(shares[0])) == len(order):
                self.assertEqual(ranking_of(shares_of(other)), turned_ranking(ranking_of(shares), order))


if __name__ == "__main__":
    unittest.main()
