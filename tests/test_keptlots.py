import unittest

from leapranks.changes import changed, touched, with_leaps
from leapranks.columns import column_of
from leapranks.errors import NoChange
from leapranks.keptlots import lot_changed, lot_with_leaps
from leapranks.lots import begun, is_lot, lot_by
from tests.examples import (ALWAYS, HUGE, OF_ANY_KIND, PAIR, PAIR_FALLS, THREE, THREE_FALLS, Numbers, all_webs,
                            left_alone, some_leaps)
from tests.test_changes import FULL, NO_CHANGES, NO_LEAPS
from tests.test_ends import lots_of_all_kinds
from tests.test_lifts import some_changes


def weight_now(web, a, b):
    return sum(tie[2] for tie in web[1] if tie[:2] == (a, b))


class LotChangedTest(unittest.TestCase):
    def told(self, web, lot, change):
        """The changed lot, looked at by points 12 and 19."""
        told = left_alone(self, lot_changed, web, lot, change)
        behind = changed(web, change)
        self.assertEqual(told[:2], lot[:2])
        self.assertIs(is_lot(behind, told), True)
        a = change[0]
        ahead_column, behind_column = column_of(web, a), column_of(behind, a)
        for j in range(len(web[0])):
            self.assertEqual(told[2][j], lot[2][j] + lot[1][a] * (ahead_column[j] - behind_column[j]))
            if j not in touched(web, change):
                self.assertEqual(told[2][j], lot[2][j])
        return told

    def test_by_hand(self):
        self.assertEqual(self.told(PAIR, (4, (1, 0), (0, 2)), (0, 1, 0)), (4, (1, 0), (3, 0)))
        self.assertEqual(self.told(PAIR, (4, (1, 0), (0, 2)), (0, 1, 3)), (4, (1, 0), (-2, 3)))
        self.assertEqual(self.told(PAIR, (4, (-1, 5), (8, -7)), (1, 0, 1)), (4, (-1, 5), (13, -12)))
        self.assertEqual(self.told(PAIR_FALLS, (22, (7, 2), (0, 0)), (0, 1, 0)), (22, (7, 2), (-7, -7)))

    def test_the_weight_that_it_has(self):
        for web, lot in lots_of_all_kinds(60):
            for tie in web[1][:5]:
                self.assertEqual(self.told(web, lot, tie), lot)
        self.assertEqual(self.told(THREE, begun(THREE, 9), (1, 0, 0)), begun(THREE, 9))

    def test_a_place_that_has_not_gone(self):
        self.assertEqual(self.told(PAIR, (4, (0, 0), (4, 0)), (0, 1, 30)), (4, (0, 0), (4, 0)))

    def test_set_taken_away_and_changed_back(self):
        numbers = Numbers(61)
        for web, lot in lots_of_all_kinds(62):
            for change in some_changes(numbers, web, 3) + [tie[:2] + (0,) for tie in web[1][:3]]:
                told = self.told(web, lot, change)
                a, b, weight = change
                self.assertEqual(lot_changed(changed(web, change), told, (a, b, weight_now(web, a, b))), lot)

    def test_many_one_behind_the_other(self):
        numbers = Numbers(63)
        for web in all_webs():
            lot = lot_by(web, 7, (HUGE,) * len(web[0]))
            for turn in range(8):
                change = some_changes(numbers, web, 1)[0]
                lot = self.told(web, lot, change)
                web = changed(web, change)

    def test_the_last_tie_of_a_place(self):
        for web, change in ((PAIR, (0, 1, 0)), (PAIR_FALLS, (0, 1, 0)), (THREE, (2, 0, 0)), (THREE_FALLS, (2, 0, 0)),
                            (ALWAYS, (2, 0, 0))):
            self.told(web, lot_by(web, 5, (3, -4, 5)[:len(web[0])]), change)

    def test_refused(self):
        lot = lot_by(PAIR, 4, (1, 2))
        for thing in NO_CHANGES + OF_ANY_KIND:
            before = repr((lot, thing))
            with self.subTest(thing=thing), self.assertRaises(NoChange):
                lot_changed(PAIR, lot, thing)
            self.assertEqual(repr((lot, thing)), before)
        for a in range(10):
            with self.assertRaises(NoChange):
                lot_changed(FULL, begun(FULL, 1), (a, 9, 1))
        self.told(FULL, begun(FULL, 1), (3, 3, 30))


class LotWithLeapsTest(unittest.TestCase):
    def told(self, web, lot, leaps):
        """The lot with other leaps, looked at by points 12 and 20."""
        told = left_alone(self, lot_with_leaps, web, lot, leaps)
        self.assertEqual(told[:2], lot[:2])
        self.assertIs(is_lot(with_leaps(web, leaps), told), True)
        for j, leap in enumerate(leaps):
            self.assertEqual(told[2][j], lot[2][j] + lot[0] * (leap - web[2][j]))
        return told

    def test_by_hand(self):
        self.assertEqual(self.told(PAIR, (4, (1, 0), (0, 2)), (0, 30)), (4, (1, 0), (-4, 122)))
        self.assertEqual(self.told(PAIR, (4, (1, 0), (0, 2)), (1, 0)), (4, (1, 0), (0, 2)))
        self.assertEqual(self.told(PAIR, (4, (-1, 5), (8, -7)), (2, 1)), (4, (-1, 5), (12, -3)))

    def test_other_leaps_and_back(self):
        numbers = Numbers(64)
        for web, lot in lots_of_all_kinds(65):
            leaps = some_leaps(numbers, len(web[0]))
            told = self.told(web, lot, leaps)
            self.assertEqual(lot_with_leaps(with_leaps(web, leaps), told, web[2]), lot)
            self.assertEqual(lot_with_leaps(web, lot, web[2]), lot)

    def test_refused(self):
        lot = lot_by(PAIR, 4, (1, 2))
        for thing in NO_LEAPS + OF_ANY_KIND:
            if thing != (1, 2):
                before = repr((lot, thing))
                with self.subTest(thing=thing), self.assertRaises(NoChange):
                    lot_with_leaps(PAIR, lot, thing)
                self.assertEqual(repr((lot, thing)), before)


if __name__ == "__main__":
    unittest.main()
