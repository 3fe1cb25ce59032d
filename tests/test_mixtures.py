import unittest
from fractions import Fraction

from leapranks.mixtures import shares_by, shares_from
from leapranks.shares import shares_of
from leapranks.tables import lets_table, table_of
from tests.examples import (ALWAYS, HUGE, LONE, PAIR, PAIR_FALLS, TEN_BARE, THREE, THREE_FALLS, TWO_ISLES, all_webs,
                            left_alone, with_part)
from tests.test_tables import times
from tests.walks import parts_of, shares_by_elimination


def leaping_to(web, a):
    return with_part(web, 2, tuple(int(a == b) for b in range(len(web[0]))))


class SharesFromTest(unittest.TestCase):
    def told(self, web, a, split):
        self.assertEqual(left_alone(self, shares_from, web, a), split)

    def test_by_hand(self):
        self.told(LONE, 0, ((1,), 1))
        self.told(PAIR, 0, ((1, 1), 2))
        self.told(PAIR, 1, ((0, 1), 1))
        self.told(PAIR_FALLS, 0, ((7, 4), 11))
        self.told(TEN_BARE, 3, ((0, 0, 0, 1, 0, 0, 0, 0, 0, 0), 1))
        self.told(ALWAYS, 1, ((0, 1, 0), 1))

    def test_are_those_of_the_web_with_leaps_there(self):
        for web in all_webs():
            for a in range(len(web[0])):
                other = leaping_to(web, a)
                self.told(web, a, shares_of(other))
                self.assertEqual(parts_of(shares_from(web, a)), shares_by_elimination(other))

    def test_the_webs_own_leaps_do_not_count(self):
        for web in all_webs():
            other = with_part(web, 2, (30,) * len(web[0]))
            for a in range(len(web[0])):
                self.told(other, a, shares_from(web, a))

    def test_the_mixture(self):
        for web in all_webs():
            places = range(len(web[0]))
            kinds = [parts_of(shares_from(web, i)) for i in places]
            mixed = [sum(Fraction(web[2][i], sum(web[2])) * kinds[i][a] for i in places) for a in places]
            self.assertEqual(mixed, shares_by_elimination(web))

    def test_asked_behind_another_web(self):
        first = shares_from(THREE, 1)
        shares_from(THREE_FALLS, 1)
        shares_from(THREE, 2)
        self.told(THREE, 1, first)


class SharesByTest(unittest.TestCase):
    def told(self, web, table, split):
        self.assertIs(lets_table(web, table), True)
        self.assertEqual(left_alone(self, shares_by, web, table), split)

    def test_by_hand(self):
        self.told(PAIR_FALLS, (22, ((7, 3), (2, 4))), ((7, 4), 11))
        self.told(PAIR_FALLS, (66, ((21, 9), (6, 12))), ((7, 4), 11))
        self.told(LONE, (1, ((1,),)), ((1,), 1))
        self.told(LONE, (5, ((5,),)), ((1,), 1))

    def test_by_the_table_are_the_webs_shares(self):
        for web in all_webs():
            self.told(web, table_of(web), shares_of(web))
            self.assertEqual(parts_of(shares_by(web, table_of(web))), shares_by_elimination(web))

    def test_by_the_table_so_many_times(self):
        for web in all_webs():
            for many in (2, 7, 30, HUGE):
                self.told(web, times(table_of(web), many), shares_of(web))

    def test_leaps_to_one_place(self):
        for web in all_webs():
            table = table_of(web)
            for a in range(len(web[0])):
                # The leaps are no part of the columns: one table does for all leaps.
                self.told(leaping_to(web, a), table, shares_from(web, a))

    def test_asked_behind_another_web(self):
        table = table_of(TWO_ISLES)
        first = shares_by(TWO_ISLES, table)
        shares_by(THREE, table_of(THREE))
        self.told(TWO_ISLES, table, first)


if __name__ == "__main__":
    unittest.main()
