import unittest

from leapranks.changes import changed, with_leaps
from leapranks.ends import ends_of
from leapranks.errors import NoBack, NoChange, NoPush
from leapranks.keeper import Keeper
from leapranks.keptlots import lot_changed, lot_with_leaps
from leapranks.lots import begun, is_lot
from leapranks.pushes import can_push, push
from leapranks.rankings import surely_ahead
from leapranks.sweeps import end_of
from tests.examples import (OF_ANY_KIND, PAIR, PAIR_FALLS, TEN, THREE, THREE_FALLS, Numbers, all_webs, plain,
                            some_leaps)
from tests.test_changes import FULL, NO_CHANGES, NO_LEAPS
from tests.test_lifts import some_changes
from tests.test_pushes import resting


def unlike_rests(one, other):
    return tuple(a for a in range(len(one[2])) if one[2][a] != other[2][a])


def all_told(keeper):
    """All that a keeper tells without a deed."""
    web = keeper.web()
    return (web, keeper.lot(), [keeper.ends(a) for a in range(len(web[0]))], keeper.ahead())


class KeeperTest(unittest.TestCase):
    def test_begun(self):
        for web in all_webs():
            for grains in (1, 7, 10 ** 6):
                keeper = Keeper(web, grains)
                self.assertEqual((keeper.web(), keeper.lot()), (web, begun(web, grains)))

    def test_by_hand(self):
        keeper = Keeper(PAIR, 100)
        self.assertEqual(keeper.lot(), (100, (0, 0), (100, 0)))
        self.assertEqual(keeper.push(0, 5), (0, 1))
        self.assertEqual(keeper.lot(), (100, (5, 0), (80, 10)))
        self.assertEqual(keeper.ends(0), ((1, 10), (1, 1)))
        self.assertEqual(keeper.ends(1), ((0, 1), (9, 10)))
        self.assertEqual(keeper.settle(), (0, 1))
        self.assertEqual(keeper.lot(), (100, (25, 50), (0, 0)))
        self.assertEqual(keeper.settle(), ())
        self.assertEqual(keeper.tie((0, 1, 3)), (0, 1))
        self.assertEqual(keeper.web()[1], ((0, 1, 3),))
        self.assertEqual(keeper.lot(), (100, (25, 50), (-50, 25)))
        self.assertEqual(keeper.leap((1, 2)), (1,))
        self.assertEqual(keeper.web()[2], (1, 2))
        self.assertEqual(keeper.lot(), (100, (25, 50), (-50, 225)))
        self.assertEqual(keeper.push(0, -8), (0, 1))
        self.assertEqual(keeper.lot(), (100, (17, 50), (-2, 201)))
        self.assertEqual(keeper.settle(), (1,))
        self.assertEqual(keeper.lot(), (100, (17, 251), (-2, 0)))
        self.assertEqual(keeper.ends(1), ((83, 100), (251, 300)))
        self.assertEqual(keeper.ahead(), [(1, 0)])
        told = [keeper.back() for deed in range(7)]
        self.assertEqual(told, [(1,), (0, 1), (1,), (0, 1), (), (0, 1), (0, 1)])
        self.assertEqual((keeper.web(), keeper.lot()), (PAIR, (100, (0, 0), (100, 0))))
        with self.assertRaises(NoBack):
            keeper.back()

    def some_deed(self, numbers, keeper):
        """Does some deed; a tuple of what was told and of the web and lot that the stages tell."""
        web, lot = keeper.web(), keeper.lot()
        kind = numbers.below(4)
        if kind == 0:
            change = some_changes(numbers, web, 1)[0]
            return keeper.tie(change), changed(web, change), lot_changed(web, lot, change)
        if kind == 1:
            leaps = some_leaps(numbers, len(web[0]))
            return keeper.leap(leaps), with_leaps(web, leaps), lot_with_leaps(web, lot, leaps)
        places = can_push(web, lot)
        if kind == 2 and places:
            a = places[numbers.below(len(places))]
            many = -1 if lot[2][a] < 0 else 1
            return keeper.push(a, many), web, push(web, lot, a, many)
        return keeper.settle(), web, end_of(web, lot)

    def test_led_through_all_deeds_and_back(self):
        numbers = Numbers(80)
        for web in all_webs():
            keeper = Keeper(web, numbers.between(1, 10 ** 6))
            states = [all_told(keeper)]
            for turn in range(15):
                ahead = keeper.lot()
                told, new_web, new_lot = self.some_deed(numbers, keeper)
                self.assertEqual((keeper.web(), keeper.lot()), (new_web, new_lot))
                self.assertEqual(told, unlike_rests(ahead, new_lot))
                self.assertIs(is_lot(new_web, new_lot), True)
                states.append(all_told(keeper))
                self.assertTrue(plain(states[-1]) and plain(told))
                self.assertEqual(states[-1][2], [ends_of(new_web, new_lot, a) for a in range(len(web[0]))])
                self.assertEqual(states[-1][3], surely_ahead(new_web, new_lot))
            while len(states) > 1:
                left = states.pop()
                self.assertEqual(keeper.back(), unlike_rests(left[1], states[-1][1]))
                self.assertEqual(all_told(keeper), states[-1])
            with self.assertRaises(NoBack):
                keeper.back()
            self.assertEqual(all_told(keeper), states[0])

    def test_deeds_between_takings_back(self):
        keeper = Keeper(THREE, 1000)
        first = all_told(keeper)
        keeper.settle()
        second = all_told(keeper)
        keeper.tie((1, 0, 4))
        keeper.back()
        self.assertEqual(all_told(keeper), second)
        keeper.leap((1, 1, 1))
        keeper.tie((2, 2, 9))
        keeper.back()
        keeper.back()
        self.assertEqual(all_told(keeper), second)
        keeper.back()
        self.assertEqual(all_told(keeper), first)
        for turn in range(2):
            with self.assertRaises(NoBack):
                keeper.back()
        keeper.settle()
        self.assertEqual(all_told(keeper), second)

    def test_a_deed_that_changes_nothing_is_one(self):
        keeper = Keeper(PAIR, 4)
        self.assertEqual(keeper.settle(), (0,))
        self.assertEqual(keeper.settle(), ())
        self.assertEqual(keeper.tie((0, 1, 2)), ())
        self.assertEqual(keeper.tie((1, 0, 0)), ())
        self.assertEqual(keeper.leap((1, 0)), ())
        settled = all_told(keeper)
        for turn in range(4):
            self.assertEqual(keeper.back(), ())
            self.assertEqual(all_told(keeper), settled)
        self.assertEqual(keeper.back(), (0,))
        with self.assertRaises(NoBack):
            keeper.back()

    def test_a_tie_of_a_place_that_has_not_gone(self):
        keeper = Keeper(PAIR, 4)
        self.assertEqual(keeper.tie((0, 1, 30)), ())
        self.assertEqual(keeper.web()[1], ((0, 1, 30),))
        self.assertEqual(keeper.back(), ())
        self.assertEqual(keeper.web(), PAIR)

    def test_no_back_at_the_begin(self):
        for web in all_webs():
            keeper = Keeper(web, 5)
            with self.assertRaises(NoBack):
                keeper.back()
            self.assertEqual((keeper.web(), keeper.lot()), (web, begun(web, 5)))

    def refused(self, keeper, kind, call, *handed):
        before = repr((all_told(keeper), handed))
        with self.subTest(handed=handed), self.assertRaises(kind):
            call(*handed)
        self.assertEqual(repr((all_told(keeper), handed)), before)

    def test_refused_deeds_change_nothing(self):
        keeper = Keeper(PAIR, 100)
        keeper.push(0, 5)
        for thing in NO_CHANGES + OF_ANY_KIND:
            self.refused(keeper, NoChange, keeper.tie, thing)
        for thing in NO_LEAPS + OF_ANY_KIND:
            if thing != (1, 2):
                self.refused(keeper, NoChange, keeper.leap, thing)
        for many in (0, -1, 21, 10 ** 30, None, True, False, "1", [1], (1,), {}):
            self.refused(keeper, NoPush, keeper.push, 0, many)
        for many in (0, -1, 11, True, None):
            self.refused(keeper, NoPush, keeper.push, 1, many)
        # What was refused was no deed: one taking back leads to the begin.
        self.assertEqual(keeper.back(), (0, 1))
        self.assertEqual((keeper.web(), keeper.lot()), (PAIR, begun(PAIR, 100)))
        self.refused(keeper, NoBack, keeper.back)
        self.refused(keeper, NoPush, keeper.push, 1, 1)

    def test_refused_for_a_forty_first_tie(self):
        keeper = Keeper(FULL, 100)
        self.refused(keeper, NoChange, keeper.tie, (0, 9, 1))
        keeper.tie((0, 0, 0))
        keeper.tie((0, 9, 1))
        self.refused(keeper, NoChange, keeper.tie, (0, 0, 1))
        keeper.back()
        keeper.tie((0, 0, 1))
        self.assertEqual(keeper.web(), FULL)

    def test_two_keepers_of_one_web(self):
        one, other = Keeper(THREE_FALLS, 500), Keeper(THREE_FALLS, 500)
        begin = all_told(other)
        one.settle()
        one.tie((1, 0, 3))
        one.leap((1, 2, 3))
        self.assertEqual(all_told(other), begin)
        with self.assertRaises(NoBack):
            other.back()
        led = all_told(one)
        other.tie((0, 0, 0))
        other.settle()
        self.assertEqual(all_told(one), led)
        self.assertEqual(Keeper(THREE_FALLS, 500).lot(), begin[1])

    def test_told_lists_are_the_askers_own(self):
        keeper = Keeper(TEN, 10 ** 6)
        keeper.settle()
        first = keeper.ahead()
        kept = list(first)
        self.assertTrue(kept)
        first.clear()
        self.assertEqual(keeper.ahead(), kept)
        lot = keeper.lot()
        ends = keeper.ends(3)
        shown = repr((lot, ends))
        keeper.leap((1,) * 10)
        keeper.settle()
        self.assertEqual(repr((lot, ends)), shown)
        self.assertEqual(kept, surely_ahead(TEN, lot))

    def test_asking_is_no_deed(self):
        keeper = Keeper(PAIR_FALLS, 100)
        keeper.settle()
        told = [all_told(keeper) for turn in range(3)]
        self.assertEqual(told[0], told[2])
        keeper.back()
        self.assertEqual(keeper.lot(), begun(PAIR_FALLS, 100))
        with self.assertRaises(NoBack):
            keeper.back()

    def test_what_rests_grows_less(self):
        for web in all_webs():
            keeper = Keeper(web, 1000)
            while can_push(web, keeper.lot()):
                a = can_push(web, keeper.lot())[-1]
                before = keeper.lot()
                self.assertIn(a, keeper.push(a, before[2][a] // abs(before[2][a])))
                self.assertLess(resting(keeper.lot()), resting(before))
                keeper.settle()


if __name__ == "__main__":
    unittest.main()
