import itertools
import unittest
from fractions import Fraction

from leapranks.changes import changed
from leapranks.ends import ends_of
from leapranks.errors import NoChange
from leapranks.exact import exact_lot
from leapranks.lifts import best_change
from leapranks.liftpapers import lets_lift, lift_paper
from leapranks.lots import begun, is_lot, joined, lot_by
from leapranks.sweeps import end_of
from tests.examples import (ALWAYS, HUGE, LONE, OF_ANY_KIND, PAIR, PAIR_FALLS, TEN_BARE, TEN_FALL, THREE, THREE_FALLS,
                            Numbers, all_webs, left_alone, with_part)
from tests.test_changes import FULL, NO_CHANGES
from tests.test_lifts import share_of_the_changed, some_changes
from tests.test_lots import some_goings

CHANGES = [(0, 1, 2), (0, 1, 0), (1, 0, 1)]
NO_LISTS = ([], [(0, 1, 1)] * 13, ((0, 1, 1),), (0, 1, 1), {0: (0, 1, 1)}, {(0, 1, 1): 0}, [[(0, 1, 1)]], "ab", None, True, 0)


def end_by(web, k, lot, side):
    return Fraction(*ends_of(web, lot, k)[side])


def let_by_the_point(web, k, changes, at, lots):
    """Whether a paper with lots that fit is let by, as point 25 tells."""
    webs = [changed(web, change) for change in changes]
    low = end_by(webs[at], k, lots[at], 0)
    return all(low >= end_by(webs[i], k, lots[i], 1) for i in range(len(lots)) if i != at)


def lots_with_rests(numbers, web, changes, grains):
    """A lot for each change: exact ones, ends of begun ones, and some with rests of either sign."""
    lots = []
    for change in changes:
        behind = changed(web, change)
        lot = end_of(behind, begun(behind, grains))
        kind = numbers.below(3)
        if kind == 0:
            lot = exact_lot(behind)
        if kind == 1:
            lot = joined(lot, lot_by(behind, grains, some_goings(numbers, len(web[0]), 5)))
        lots.append(lot)
    return lots


class LiftPaperTest(unittest.TestCase):
    def told(self, web, k, changes):
        paper = left_alone(self, lift_paper, web, k, changes)
        at, lots = paper
        self.assertEqual((type(paper), type(lots), len(lots)), (tuple, list, len(changes)))
        for change, lot in zip(changes, lots):
            self.assertIs(is_lot(changed(web, change), lot), True)
        self.assertIs(let_by_the_point(web, k, changes, at, lots), True)
        self.assertIs(left_alone(self, lets_lift, web, k, changes, paper), True)
        shares = [share_of_the_changed(web, change, k) for change in changes]
        self.assertEqual(shares[at], max(shares))
        self.assertEqual(Fraction(*best_change(web, k, changes)[1]), shares[at])

    def test_one_change_and_twelve(self):
        numbers = Numbers(120)
        for web in all_webs():
            for many in (1, 2, 12):
                self.told(web, numbers.below(len(web[0])), some_changes(numbers, web, many))

    def test_alike_ones(self):
        self.told(PAIR, 0, [(0, 1, 9)] * 12)
        self.told(LONE, 0, [(0, 0, weight) for weight in range(12)])
        self.told(ALWAYS, 2, [(0, 1, weight) for weight in range(12)])
        for web in all_webs():
            self.told(web, 0, [(0, 0, 0)] * 3)

    def test_each_is_behind_the_web_as_it_is(self):
        self.told(with_part(FULL, 1, FULL[1][:39]), 9, [(a, 9, 1 + a) for a in range(10)])

    def test_the_told_paper_is_the_askers_own(self):
        first = lift_paper(THREE, 0, [(1, 0, 4), (2, 2, 9)])
        kept = repr(first)
        first[1].clear()
        lift_paper(THREE_FALLS, 0, [(1, 0, 4), (2, 2, 9)])
        second = lift_paper(THREE, 0, [(1, 0, 4), (2, 2, 9)])
        self.assertEqual(repr(second), kept)
        second[1][0] = None
        self.assertIs(lets_lift(THREE, 0, [(1, 0, 4), (2, 2, 9)], second), False)
        self.assertEqual(repr(lift_paper(THREE, 0, [(1, 0, 4), (2, 2, 9)])), kept)
        self.assertIs(lets_lift(THREE, 0, [(1, 0, 4), (2, 2, 9)], first), False)

    def test_what_is_done_to_the_changes_behind_the_call(self):
        changes = [(1, 0, 4), (2, 2, 9)]
        first = lift_paper(THREE, 0, changes)
        kept = repr(first)
        changes.append((0, 0, 30))
        changes[0] = None
        self.assertEqual(repr(first), kept)
        self.assertIs(lets_lift(THREE, 0, [(1, 0, 4), (2, 2, 9)], first), True)


class LetsLiftTest(unittest.TestCase):
    def told(self, web, k, changes, thing, answer):
        with self.subTest(thing=thing):
            self.assertIs(left_alone(self, lets_lift, web, k, changes, thing), answer)

    def test_by_hand(self):
        # Behind these changes left has the shares 1/2, 1/1 and 2/3.
        lots = [(4, (1, 2), (0, 0)), (1, (1, 0), (0, 0)), (3, (1, 1), (0, 0))]
        self.told(PAIR, 0, CHANGES, (1, lots), True)
        self.told(PAIR, 0, CHANGES, (0, lots), False)
        self.told(PAIR, 0, CHANGES, (2, lots), False)
        self.told(PAIR, 1, CHANGES, (0, lots), True)
        self.told(PAIR, 1, CHANGES, (1, lots), False)

    def test_ends_that_are_alike(self):
        # The one's low end is 1/2, so is the other's high end: alike ones are let by.
        changes = [(0, 1, 2), (0, 1, 2)]
        self.told(PAIR, 0, changes, (0, [(4, (1, 0), (0, 2)), (4, (1, 2), (0, 0))]), True)
        self.told(PAIR, 0, changes, (1, [(4, (1, 0), (0, 2)), (4, (1, 2), (0, 0))]), False)
        self.told(PAIR, 0, [(0, 1, 2)], (0, [(4, (0, 0), (4, 0))]), True)

    def test_by_whoever_with_rests(self):
        numbers = Numbers(121)
        answers = []
        for web in all_webs():
            for many, grains in ((1, 5), (2, 10 ** 3), (3, 10 ** 9), (12, 10 ** 12)):
                changes = some_changes(numbers, web, many)
                k = numbers.below(len(web[0]))
                lots = lots_with_rests(numbers, web, changes, grains)
                for at in range(many):
                    answer = let_by_the_point(web, k, changes, at, lots)
                    self.told(web, k, changes, (at, lots), answer)
                    answers.append(answer)
                    if answer:
                        shares = [share_of_the_changed(web, change, k) for change in changes]
                        self.assertEqual(shares[at], max(shares))
        self.assertGreater(answers.count(True), 30)
        self.assertGreater(answers.count(False), 30)

    def test_lots_of_two_hundred_figures(self):
        lots = [lot_by(changed(PAIR, change), HUGE, (HUGE // 4, -HUGE)) for change in CHANGES]
        for at in range(3):
            self.told(PAIR, 0, CHANGES, (at, lots), let_by_the_point(PAIR, 0, CHANGES, at, lots))
        great = [(HUGE * grains, (HUGE * a, HUGE * b), (0, 0)) for grains, (a, b), rest in lift_paper(PAIR, 0, CHANGES)[1]]
        self.told(PAIR, 0, CHANGES, (1, great), True)

    def test_another_number(self):
        at, lots = lift_paper(PAIR, 0, CHANGES)
        self.assertEqual(at, 1)
        for other in (0, 2, 3, -1, -2, HUGE, True, False, None, "1", (1,), [1]):
            self.told(PAIR, 0, CHANGES, (other, lots), False)
        self.told(PAIR, 0, [(0, 1, 0)], (0, [(1, (1, 0), (0, 0))]), True)
        for other in (False, -1, 1):
            self.told(PAIR, 0, [(0, 1, 0)], (other, [(1, (1, 0), (0, 0))]), False)
        # The last one is the best here, but it isn't numbered from behind.
        at, lots = lift_paper(PAIR, 0, CHANGES[:2])
        self.assertEqual(at, 1)
        for other in (-1, -2, 2):
            self.told(PAIR, 0, CHANGES[:2], (other, lots), False)

    def test_lots_exchanged_left_out_or_too_many(self):
        numbers = Numbers(122)
        for web in (PAIR, PAIR_FALLS, THREE, THREE_FALLS, TEN_FALL):
            changes = [(0, 0, 7), (0, 1, 29), (1, 0, 5), (1, 1, 30)]
            k = numbers.below(len(web[0]))
            at, lots = lift_paper(web, k, changes)
            for order in itertools.permutations(range(4)):
                other = [lots[i] for i in order]
                fits = all(is_lot(changed(web, change), lot) for change, lot in zip(changes, other))
                self.told(web, k, changes, (at, other), fits and let_by_the_point(web, k, changes, at, other))
            for other in (lots[:-1], lots[1:], lots + lots[-1:], [], lots * 2, lots[:-1] + [None], [[lot] for lot in lots]):
                self.told(web, k, changes, (at, other), False)

    def test_lots_that_do_not_fit(self):
        at, lots = lift_paper(PAIR, 0, CHANGES)
        for lot in ((4, (1, 2), (0, 1)), (5, (1, 2), (0, 0)), (4, (1, 1), (0, 0)), (0, (0, 0), (0, 0)), (4, (True, 2), (0, 0)),
                    (4, (1, 2), (0, False)), [4, (1, 2), (0, 0)], (4, [1, 2], (0, 0)), (4, (1, 2)), (4, (1, 2), (0, 0), 0),
                    (4, (1,), (0,)), None, 4, "lot 4: 1,2: 0,0", (), lots[1]):
            self.told(PAIR, 0, CHANGES, (at, [lot] + lots[1:]), False)

    def test_another_form(self):
        at, lots = lift_paper(PAIR, 0, CHANGES)
        for thing in ((at, tuple(lots)), [at, lots], (lots, at), (at,), (lots,), (at, lots, lots), (at, lots, 0), lots, at,
                      ((at, lots),), [(at, lots)], {at: 0}, {0: at, 1: lots}, (at, {}), (at, None), (at, "lots"), ()):
            self.told(PAIR, 0, CHANGES, thing, False)

    def test_of_anything(self):
        lots = lift_paper(PAIR, 0, CHANGES)[1]
        for thing in OF_ANY_KIND:
            self.told(PAIR, 0, CHANGES, thing, False)
            self.told(PAIR, 0, CHANGES, (1, thing), False)
            self.told(PAIR, 0, CHANGES, (1, [thing] * 3), False)
            self.told(PAIR, 0, CHANGES, (thing, lots), thing == 1 and thing is not True)

    def test_asked_behind_another_web(self):
        paper = lift_paper(PAIR, 0, CHANGES)
        other = lift_paper(PAIR_FALLS, 0, CHANGES)
        for turn in range(2):
            self.told(PAIR, 0, CHANGES, paper, True)
            self.told(PAIR_FALLS, 0, CHANGES, paper, False)
            self.told(PAIR_FALLS, 0, CHANGES, other, True)
            self.told(PAIR, 1, CHANGES, paper, False)


class RefusedTest(unittest.TestCase):
    def refused(self, web, changes, *papers):
        before = repr((changes, papers))
        with self.subTest(changes=changes):
            with self.assertRaises(NoChange):
                lift_paper(web, 0, changes)
            for paper in papers:
                with self.assertRaises(NoChange):
                    lets_lift(web, 0, changes, paper)
        self.assertEqual(repr((changes, papers)), before)

    def papers(self):
        return (lift_paper(PAIR, 0, CHANGES), (0, []), (0, [None]), None, True, "", [], {}, (1, 2))

    def test_no_lists(self):
        for changes in NO_LISTS + OF_ANY_KIND:
            self.refused(PAIR, changes, *self.papers())

    def test_no_changes_within(self):
        for thing in NO_CHANGES + OF_ANY_KIND:
            for changes in ([thing], CHANGES + [thing], [thing] + CHANGES):
                self.refused(PAIR, changes, *self.papers())

    def test_a_forty_first_tie(self):
        paper = lift_paper(FULL, 0, [(0, 0, 1)])
        for changes in ([(0, 9, 1)], [(0, 0, 1), (0, 9, 1)], [(0, 1, 0), (0, 9, 1)]):
            self.refused(FULL, changes, paper, None, (0, []))
        self.assertIs(lets_lift(FULL, 0, [(0, 0, 1)], paper), True)
        self.assertIs(lets_lift(TEN_BARE, 0, [(0, 9, 1)], lift_paper(TEN_BARE, 0, [(0, 9, 1)])), True)


if __name__ == "__main__":
    unittest.main()
