import unittest
from fractions import Fraction

from leapranks.changes import changed
from leapranks.errors import NoChange
from leapranks.lifts import best_change, share_behind, worst_change
from leapranks.tables import table_of
from tests.examples import (ALWAYS, LONE, OF_ANY_KIND, PAIR, PAIR_FALLS, TEN, TEN_BARE, TEN_FALL, THREE, THREE_FALLS,
                            Numbers, all_webs, left_alone, with_part)
from tests.test_changes import FULL, NO_CHANGES
from tests.walks import as_pair, shares_by_elimination


def some_changes(numbers, web, many):
    """A list of so many changes that the web doesn't refuse."""
    places = len(web[0])
    ends = [tie[:2] for tie in web[1]]
    changes = []
    while len(changes) < many:
        change = (numbers.below(places), numbers.below(places), numbers.between(0, 30))
        if len(web[1]) < 40 or change[2] == 0 or change[:2] in ends:
            changes.append(change)
    return changes


def share_of_the_changed(web, change, k):
    return shares_by_elimination(changed(web, change))[k]


class ShareBehindTest(unittest.TestCase):
    def told(self, web, change, k, share):
        self.assertEqual(left_alone(self, share_behind, web, table_of(web), change, k), share)

    def test_by_hand(self):
        self.told(PAIR, (0, 1, 2), 0, (1, 2))
        self.told(PAIR, (0, 1, 0), 0, (1, 1))
        self.told(PAIR, (0, 1, 0), 1, (0, 1))
        self.told(PAIR, (1, 0, 1), 0, (2, 3))
        self.told(PAIR, (1, 0, 1), 1, (1, 3))
        self.told(PAIR_FALLS, (0, 1, 2), 0, (7, 11))
        self.told(LONE, (0, 0, 5), 0, (1, 1))
        self.told(ALWAYS, (0, 1, 30), 1, (0, 1))
        self.told(ALWAYS, (0, 1, 30), 2, (5, 7))

    def test_is_the_share_of_the_changed_web(self):
        numbers = Numbers(35)
        for web in all_webs():
            for change in some_changes(numbers, web, 6):
                for k in range(len(web[0])):
                    self.told(web, change, k, as_pair(share_of_the_changed(web, change, k)))

    def test_the_last_tie_of_a_place(self):
        for web, change in ((PAIR_FALLS, (0, 1, 0)), (THREE, (2, 0, 0)), (THREE_FALLS, (2, 0, 0)),
                            (TEN_FALL, (9, 0, 0))):
            for k in range(len(web[0])):
                self.told(web, change, k, as_pair(share_of_the_changed(web, change, k)))

    def test_refused(self):
        table = table_of(PAIR)
        for thing in NO_CHANGES + OF_ANY_KIND:
            with self.subTest(thing=thing), self.assertRaises(NoChange):
                share_behind(PAIR, table, thing, 0)
        with self.assertRaises(NoChange):
            share_behind(FULL, table_of(FULL), (0, 9, 1), 3)
        self.told(PAIR, (0, 1, 2), 0, (1, 2))

    def test_asked_behind_another_web(self):
        first = share_behind(THREE, table_of(THREE), (1, 0, 4), 2)
        share_behind(THREE_FALLS, table_of(THREE_FALLS), (1, 0, 4), 2)
        self.assertEqual(share_behind(THREE, table_of(THREE), (1, 0, 4), 2), first)


class BestAndWorstTest(unittest.TestCase):
    def told(self, web, k, changes, best, worst):
        self.assertEqual(left_alone(self, best_change, web, k, changes), best)
        self.assertEqual(left_alone(self, worst_change, web, k, changes), worst)

    def test_by_hand(self):
        self.told(PAIR, 0, [(0, 1, 2)], (0, (1, 2)), (0, (1, 2)))
        self.told(PAIR, 0, [(0, 1, 2), (0, 1, 0), (1, 0, 1)], (1, (1, 1)), (0, (1, 2)))
        self.told(PAIR, 1, [(0, 1, 2), (0, 1, 0), (1, 0, 1)], (0, (1, 2)), (1, (0, 1)))

    def test_of_alike_ones_the_first(self):
        self.told(PAIR, 0, [(1, 0, 1), (1, 0, 7), (0, 1, 5), (0, 1, 2), (1, 0, 9)], (0, (2, 3)), (2, (1, 2)))
        self.told(LONE, 0, [(0, 0, weight) for weight in range(12)], (0, (1, 1)), (0, (1, 1)))
        self.told(ALWAYS, 2, [(0, 1, weight) for weight in range(12)], (0, (5, 7)), (0, (5, 7)))
        self.told(PAIR, 0, [(0, 1, 9)] * 12, (0, (1, 2)), (0, (1, 2)))

    def test_as_the_point_tells(self):
        numbers = Numbers(36)
        for web in all_webs():
            for many in (1, 2, 12):
                changes = some_changes(numbers, web, many)
                k = numbers.below(len(web[0]))
                shares = [share_of_the_changed(web, change, k) for change in changes]
                best, worst = max(shares), min(shares)
                self.told(web, k, changes, (shares.index(best), as_pair(best)), (shares.index(worst), as_pair(worst)))

    def test_each_is_behind_the_web_as_it_is(self):
        # One by one each makes a fortieth tie; one behind the other they would make too many.
        less = with_part(FULL, 1, FULL[1][:39])
        changes = [(a, 9, 1 + a) for a in range(10)]
        shares = [share_of_the_changed(less, change, 9) for change in changes]
        self.told(less, 9, changes, (shares.index(max(shares)), as_pair(max(shares))),
                  (shares.index(min(shares)), as_pair(min(shares))))

    def test_more_of_a_tie_never_lowers_its_goal(self):
        for web in (PAIR, PAIR_FALLS, THREE, TEN):
            a, b, weight = web[1][0]
            changes = [(a, b, more) for more in range(1, 13)]
            best, worst = best_change(web, b, changes), worst_change(web, b, changes)
            self.assertEqual(Fraction(*best[1]), share_of_the_changed(web, (a, b, 12), b))
            self.assertEqual(worst, (0, as_pair(share_of_the_changed(web, (a, b, 1), b))))

    def refused(self, web, changes):
        for call in (best_change, worst_change):
            before = repr(changes)
            with self.subTest(call=call, changes=changes), self.assertRaises(NoChange):
                call(web, 0, changes)
            self.assertEqual(repr(changes), before)

    def test_refused_lists(self):
        self.refused(PAIR, [])
        self.refused(PAIR, [(0, 1, 1)] * 13)
        self.refused(PAIR, [(0, 1, weight) for weight in range(13)])
        self.refused(PAIR, ((0, 1, 1),))
        self.refused(PAIR, ((0, 1, 1), (0, 1, 2)))
        self.refused(PAIR, (0, 1, 1))
        self.refused(PAIR, {0: (0, 1, 1)})
        self.refused(PAIR, {(0, 1, 1): 0})
        self.refused(PAIR, [[(0, 1, 1)]])
        self.refused(PAIR, "ab")
        for thing in OF_ANY_KIND:
            self.refused(PAIR, thing)

    def test_refused_changes_in_them(self):
        for thing in NO_CHANGES + OF_ANY_KIND:
            self.refused(PAIR, [thing])
            self.refused(PAIR, [(0, 1, 1), thing])
            self.refused(PAIR, [thing, (0, 1, 1)])

    def test_refused_for_a_forty_first_tie(self):
        self.refused(FULL, [(0, 9, 1)])
        self.refused(FULL, [(0, 0, 1), (0, 1, 0), (0, 9, 1)])
        self.assertEqual(best_change(FULL, 0, [(0, 9, 0)])[0], 0)

    def test_asked_behind_another_web(self):
        changes = [(0, 1, 5), (2, 2, 1), (1, 0, 30)]
        first = best_change(THREE, 1, changes)
        best_change(THREE_FALLS, 1, changes)
        worst_change(TEN_BARE, 1, changes)
        self.assertEqual(best_change(THREE, 1, changes), first)
        changes.append((0, 0, 30))
        self.assertEqual(best_change(THREE, 1, changes[:3]), first)


if __name__ == "__main__":
    unittest.main()
