import itertools
import unittest
from fractions import Fraction

from leapranks.columns import column_of
from leapranks.exact import exact_lot
from leapranks.tables import lets_table, table_of
from tests.examples import (ALWAYS, HUGE, LONE, LONE_LOOP, OF_ANY_KIND, PAIR, PAIR_FALLS, TEN, TEN_BARE, TEN_FALL,
                            THREE, all_webs, left_alone, some_webs, with_part)


def sign_of(order):
    """1 where an order is made by an even number of exchanges, else -1."""
    pairs = itertools.combinations(order, 2)
    return -1 if sum(one > other for one, other in pairs) % 2 else 1


def determinant_by_orders(web):
    """The determinant as the document tells it, through all orders: for few places only."""
    places = range(len(web[0]))
    columns = [column_of(web, a) for a in places]
    total = 0
    for order in itertools.permutations(places):
        product = sign_of(order)
        for a in places:
            product *= columns[a][order[a]]
        total += product
    return total


def determinant_by_fractions(web):
    """The determinant by plain elimination, for many places too."""
    lines = [[Fraction(number) for number in column_of(web, a)] for a in range(len(web[0]))]
    product = Fraction(1)
    while lines:
        first, *others = lines
        product *= first[0]
        lines = [[x - y * line[0] / first[0] for x, y in zip(line[1:], first[1:])] for line in others]
    return product


def let_by_the_point(web, table):
    places = range(len(web[0]))
    return all(sum(column_of(web, a)[j] * table[1][a][i] for a in places) == (table[0] if i == j else 0)
               for i in places for j in places)


def times(table, many):
    return (table[0] * many, tuple(tuple(number * many for number in row) for row in table[1]))


def with_number(table, a, i, number):
    return (table[0], with_part(table[1], a, with_part(table[1][a], i, number)))


class TableOfTest(unittest.TestCase):
    def test_by_hand(self):
        for web, told in ((LONE, (1, ((1,),))), (LONE_LOOP, (30, ((1,),))), (PAIR, (4, ((1, 0), (2, 4)))),
                          (PAIR_FALLS, (22, ((7, 3), (2, 4)))),
                          (ALWAYS, (3969, ((189, 0, 0), (0, 189, 0), (0, 0, 441))))):
            self.assertEqual(left_alone(self, table_of, web), told)

    def test_one_is_the_determinant_by_all_orders(self):
        webs = [web for web in all_webs() + some_webs(33, 60) if len(web[0]) <= 5]
        self.assertGreater(len(webs), 20)
        for web in webs:
            self.assertEqual(table_of(web)[0], determinant_by_orders(web))

    def test_one_is_the_determinant(self):
        for web in all_webs():
            self.assertEqual(table_of(web)[0], determinant_by_fractions(web))

    def test_let_by_and_not_below_0(self):
        for web in all_webs():
            told = left_alone(self, table_of, web)
            self.assertGreaterEqual(told[0], 1)
            self.assertTrue(all(number >= 0 for row in told[1] for number in row))
            self.assertTrue(let_by_the_point(web, told))
            self.assertEqual([len(row) for row in told[1]], [len(web[0])] * len(web[0]))

    def test_the_exact_lot_by_it(self):
        for web in all_webs():
            one, rows = table_of(web)
            grains, goings, rest = exact_lot(web)
            for a, going in enumerate(goings):
                self.assertEqual(Fraction(going, grains), Fraction(sum(x * y for x, y in zip(rows[a], web[2])), one))

    def test_asked_behind_another_web(self):
        first = table_of(TEN)
        table_of(TEN_FALL)
        table_of(PAIR)
        self.assertEqual(table_of(TEN), first)


class LetsTableTest(unittest.TestCase):
    def told(self, web, thing, answer):
        with self.subTest(web=web, thing=thing):
            self.assertIs(left_alone(self, lets_table, web, thing), answer)

    def test_the_table_so_many_times(self):
        for web in all_webs():
            table = table_of(web)
            for many in (1, 2, 30, 10 ** 30, HUGE):
                self.told(web, times(table, many), True)

    def test_a_table_in_lowest_terms(self):
        self.told(ALWAYS, (63, ((3, 0, 0), (0, 3, 0), (0, 0, 7))), True)
        self.told(PAIR, (4, ((1, 0), (2, 4))), True)
        self.told(PAIR, (2, ((1, 0), (1, 2))), False)

    def test_a_number_more_or_less(self):
        for web in (LONE, PAIR, PAIR_FALLS, THREE, ALWAYS, TEN, TEN_BARE):
            many = len(web[0])
            for table in (table_of(web), times(table_of(web), 10 ** 30)):
                for step in (-1, 1):
                    self.told(web, with_part(table, 0, table[0] + step), False)
                    for a in range(many):
                        for i in range(many):
                            self.told(web, with_number(table, a, i, table[1][a][i] + step), False)

    def test_rows_exchanged(self):
        for web in (PAIR, PAIR_FALLS, THREE, TEN):
            one, rows = table_of(web)
            self.told(web, (one, rows[::-1]), False)
            self.told(web, (one, tuple(row[::-1] for row in rows)), False)
            self.told(web, (one, rows[1:] + rows[:1]), False)
        # Rows for columns: where the table isn't the same turned about, it isn't let by.
        for web in (PAIR, PAIR_FALLS, THREE, TEN):
            one, rows = table_of(web)
            self.told(web, (one, tuple(zip(*rows))), False)

    def test_one_0_or_below(self):
        for web in (LONE, PAIR, THREE):
            table = table_of(web)
            self.told(web, times(table, 0), False)
            self.told(web, times(table, -1), False)
            self.told(web, with_part(table, 0, 0), False)
            self.told(web, with_part(table, 0, -table[0]), False)

    def test_truths(self):
        self.told(LONE, (1, ((1,),)), True)
        self.told(LONE, (True, ((1,),)), False)
        self.told(LONE, (1, ((True,),)), False)
        self.told(LONE, (True, ((True,),)), False)
        self.told(PAIR, (4, ((True, 0), (2, 4))), False)
        self.told(PAIR, (4, ((1, False), (2, 4))), False)

    def test_other_forms(self):
        for thing in ([4, ((1, 0), (2, 4))], (4, [(1, 0), (2, 4)]), (4, ([1, 0], (2, 4))), (4, ((1, 0), [2, 4])),
                      (4,), (4, ((1, 0), (2, 4)), 0), (((1, 0), (2, 4)), 4), ("4", ((1, 0), (2, 4))),
                      (4, (("1", 0), (2, 4))), (4, ((None, 0), (2, 4))), (4, ("10", "24")), (4, "1024"), (4, None),
                      (None, ((1, 0), (2, 4))), (4, ((1, 0),)), (4, ((1, 0), (2, 4), (0, 0))), (4, ((1,), (2,))),
                      (4, ((1, 0, 0), (2, 4, 0))), (4, ((1, 0), (2, 4, 0))), (4, ((1, 0), (2,))), (4, ((1, 0), ())),
                      (4, ()), (4, {0: (1, 0), 1: (2, 4)}), {}, {4: ((1, 0), (2, 4))}, ((4, ((1, 0), (2, 4))),),
                      (4, (((1,), 0), (2, 4))), (4, (1, 0, 2, 4)), ((4,), ((1, 0), (2, 4)))):
            self.told(PAIR, thing, False)

    def test_of_anything(self):
        for web in (LONE, PAIR, THREE, TEN):
            for thing in OF_ANY_KIND:
                self.told(web, thing, False)

    def test_of_another_web(self):
        self.told(PAIR, table_of(PAIR_FALLS), False)
        self.told(TEN, table_of(TEN_FALL), False)
        self.told(TEN, table_of(PAIR), False)
        # Leaps are no matter of the table.
        self.told(with_part(TEN, 2, (1,) * 10), table_of(TEN), True)


if __name__ == "__main__":
    unittest.main()
