import unittest

from leapranks.changes import changed
from leapranks.errors import NoChange
from leapranks.kepttables import table_changed
from leapranks.tables import lets_table, table_of
from tests.examples import (ALWAYS, LONE, LONE_LOOP, OF_ANY_KIND, PAIR, PAIR_FALLS, TEN, TEN_BARE, TEN_FALL, THREE,
                            THREE_FALLS, Numbers, all_webs, left_alone)
from tests.test_changes import FULL, NO_CHANGES


class TableChangedTest(unittest.TestCase):
    def told(self, web, change):
        """The changed table; it is the one made anew."""
        table = left_alone(self, table_changed, web, table_of(web), change)
        behind = changed(web, change)
        self.assertEqual(table, table_of(behind))
        self.assertIs(lets_table(behind, table), True)
        return table

    def test_by_hand(self):
        self.assertEqual(self.told(PAIR, (0, 1, 0)), (1, ((1, 0), (0, 1))))
        self.assertEqual(self.told(PAIR, (0, 1, 2)), (4, ((1, 0), (2, 4))))
        self.assertEqual(self.told(PAIR, (1, 0, 1)), (6, ((2, 1), (2, 4))))
        self.assertEqual(self.told(PAIR_FALLS, (1, 0, 1)), (6, ((2, 1), (2, 4))))
        self.assertEqual(self.told(LONE, (0, 0, 30)), (30, ((1,),)))

    def test_a_new_tie(self):
        for web, change in ((THREE, (1, 2, 30)), (THREE, (2, 2, 1)), (TEN_BARE, (9, 0, 7)), (TEN_FALL, (3, 3, 30)),
                            (ALWAYS, (1, 0, 5)), (LONE, (0, 0, 1))):
            self.told(web, change)

    def test_one_taken_away(self):
        for web in (THREE, THREE_FALLS, ALWAYS, TEN):
            for a, b, weight in web[1]:
                self.told(web, (a, b, 0))

    def test_the_weight_that_it_has(self):
        for web in all_webs():
            for tie in web[1]:
                self.assertEqual(self.told(web, tie), table_of(web))
            ends = [tie[:2] for tie in web[1]]
            a = len(web[0]) - 1
            if (a, 0) not in ends:
                self.assertEqual(self.told(web, (a, 0, 0)), table_of(web))

    def test_the_last_tie_of_a_place(self):
        for web, change in ((PAIR, (0, 1, 0)), (PAIR_FALLS, (0, 1, 0)), (THREE, (2, 0, 0)), (THREE_FALLS, (2, 0, 0)),
                            (ALWAYS, (2, 0, 0)), (TEN_FALL, (9, 0, 0)), (LONE_LOOP, (0, 0, 0))):
            self.told(web, change)

    def test_many_one_behind_the_other(self):
        numbers = Numbers(34)
        for web in all_webs():
            table = table_of(web)
            many = len(web[0])
            for turn in range(12):
                change = (numbers.below(many), numbers.below(many), numbers.between(0, 30) * numbers.below(2))
                if len(web[1]) < 40 or change[2] == 0:
                    table = table_changed(web, table, change)
                    web = changed(web, change)
                    self.assertEqual(table, table_of(web))

    def test_changed_back(self):
        for web in (PAIR, THREE_FALLS, TEN):
            a, b, weight = web[1][0]
            behind = changed(web, (a, b, 29))
            self.assertEqual(table_changed(behind, self.told(web, (a, b, 29)), (a, b, weight)), table_of(web))

    def test_refused(self):
        table = table_of(PAIR)
        for thing in NO_CHANGES + OF_ANY_KIND:
            before = repr((table, thing))
            with self.subTest(thing=thing), self.assertRaises(NoChange):
                table_changed(PAIR, table, thing)
            self.assertEqual(repr((table, thing)), before)
        self.assertEqual(table_changed(PAIR, table, (0, 1, 2)), table)

    def test_a_forty_first_tie(self):
        table = table_of(FULL)
        for a in range(10):
            with self.assertRaises(NoChange):
                table_changed(FULL, table, (a, 9, 1))
        self.told(FULL, (0, 0, 30))
        self.told(FULL, (9, 9, 0))

    def test_asked_behind_another_web(self):
        first = self.told(THREE, (1, 0, 4))
        self.told(THREE_FALLS, (1, 0, 4))
        self.assertEqual(self.told(THREE, (1, 0, 4)), first)


if __name__ == "__main__":
    unittest.main()
