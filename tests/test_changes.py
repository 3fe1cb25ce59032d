import unittest

from leapranks.changes import changed, touched, with_leaps
from leapranks.columns import column_of
from leapranks.errors import NoChange
from leapranks.rows import row_of
from leapranks.webs import is_web
from tests.examples import (ALWAYS, HUGE, LONE, OF_ANY_KIND, PAIR, PAIR_FALLS, TEN, TEN_BARE, THREE, THREE_FALLS, Numbers,
                            all_webs, left_alone, some_leaps, with_part)

FULL = with_part(TEN_BARE, 1, tuple((a, b, 1 + a) for a in range(10) for b in range(4)))

NO_CHANGES = (
    (2, 0, 1), (0, 2, 1), (-1, 0, 1), (0, -1, 1), (0, 1, 31), (0, 1, -1), (0, 1, 10 ** 30), (0, 1), (0, 1, 1, 1),
    (True, 0, 1), (0, True, 1), (0, 1, True), (0, 1, False), (False, 1, 1), [0, 1, 1], ("0", 1, 1), (0, None, 1),
    (0, 1, "1"), (0, 1, (1,)), (0, 1, [1]), ("left", "right", 1), "left right 1", ((0, 1, 1),), [(0, 1, 1)], {},
    {0: 1}, None, True, 0)

NO_LEAPS = (
    (0, 0), (31, 1), (1, 31), (-1, 2), (2, -1), (1,), (1, 1, 1), (), [1, 1], (True, 0), (1, False), ("1", 1),
    (None, 1), None, "11", 11, True, {0: 1, 1: 1}, ((1, 1),), (1, (1,)))


class ChangedTest(unittest.TestCase):
    def told(self, web, change, ties):
        behind = left_alone(self, changed, web, change)
        self.assertEqual(behind, with_part(web, 1, ties))
        self.assertIs(is_web(behind), True)

    def test_a_new_tie(self):
        self.told(PAIR, (1, 0, 30), ((0, 1, 2), (1, 0, 30)))
        self.told(PAIR, (0, 0, 1), ((0, 0, 1), (0, 1, 2)))
        self.told(LONE, (0, 0, 7), ((0, 0, 7),))

    def test_another_weight(self):
        self.told(PAIR, (0, 1, 30), ((0, 1, 30),))
        self.told(THREE, (0, 1, 1), ((0, 0, 1), (0, 1, 1), (0, 2, 4), (2, 0, 3)))

    def test_one_taken_away(self):
        self.told(THREE, (0, 1, 0), ((0, 0, 1), (0, 2, 4), (2, 0, 3)))

    def test_the_web_as_it_is(self):
        for web in all_webs():
            for a in range(len(web[0])):
                for b in range(len(web[0])):
                    weight = sum(tie[2] for tie in web[1] if tie[:2] == (a, b))
                    self.told(web, (a, b, weight), web[1])

    def test_the_last_tie_of_a_place(self):
        self.told(PAIR, (0, 1, 0), ())
        self.assertEqual(row_of(changed(PAIR, (0, 1, 0)), 0), (1, 0))
        self.told(PAIR_FALLS, (0, 1, 0), ())
        self.assertEqual(row_of(changed(PAIR_FALLS, (0, 1, 0)), 0), (3, 1))

    def test_forty_ties(self):
        self.assertEqual(len(FULL[1]), 40)
        self.told(FULL, (0, 0, 30), ((0, 0, 30),) + FULL[1][1:])
        self.told(FULL, (9, 3, 0), FULL[1][:39])
        self.told(FULL, (9, 9, 0), FULL[1])
        less = changed(FULL, (9, 3, 0))
        self.told(less, (9, 4, 2), FULL[1][:39] + ((9, 4, 2),))
        for a in range(10):
            with self.assertRaises(NoChange):
                changed(FULL, (a, 4, 1))
            with self.assertRaises(NoChange):
                touched(FULL, (a, 4, 1))

    def test_changed_back(self):
        numbers = Numbers(21)
        for web in all_webs():
            many = len(web[0])
            for turn in range(10):
                a, b = numbers.below(many), numbers.below(many)
                ahead = sum(tie[2] for tie in web[1] if tie[:2] == (a, b))
                if ahead or len(web[1]) < 40:
                    behind = changed(web, (a, b, numbers.between(0, 30)))
                    self.assertIs(is_web(behind), True)
                    self.assertEqual(changed(behind, (a, b, ahead)), web)

    def test_refused(self):
        for call in (changed, touched):
            for thing in NO_CHANGES + OF_ANY_KIND:
                if thing != (1, 2, 3):
                    before = repr(thing)
                    with self.subTest(call=call, thing=thing), self.assertRaises(NoChange):
                        call(PAIR, thing)
                    self.assertEqual(repr(thing), before)
            with self.assertRaises(NoChange):
                call(PAIR, (1, 2, 3))
            call(THREE, (1, 2, 3))


class TouchedTest(unittest.TestCase):
    def told(self, web, change, places):
        self.assertEqual(left_alone(self, touched, web, change), places)

    def test_by_hand(self):
        self.told(THREE, (0, 1, 9), [0, 1])
        self.told(THREE, (0, 1, 2), [])
        self.told(THREE, (0, 1, 0), [0, 1])
        self.told(THREE, (0, 0, 2), [0])
        self.told(THREE, (1, 1, 1), [])
        self.told(THREE, (1, 1, 2), [1])
        self.told(THREE, (1, 2, 1), [1, 2])
        self.told(THREE, (1, 2, 0), [])

    def test_the_last_tie_of_a_place(self):
        self.told(THREE, (2, 0, 0), [0, 2])
        self.told(THREE_FALLS, (2, 0, 0), [0, 1, 2])
        self.told(PAIR_FALLS, (1, 0, 3), [1])
        self.told(PAIR_FALLS, (1, 0, 1), [0, 1])

    def test_always_leaping(self):
        self.told(ALWAYS, (0, 1, 9), [0])
        self.told(ALWAYS, (2, 0, 0), [2])
        self.told(ALWAYS, (1, 1, 7), [])

    def test_as_the_point_tells(self):
        numbers = Numbers(22)
        for web in all_webs():
            many = len(web[0])
            for turn in range(10):
                change = (numbers.below(many), numbers.below(many), numbers.between(0, 30))
                if len(web[1]) < 40:
                    old, new = column_of(web, change[0]), column_of(changed(web, change), change[0])
                    self.told(web, change, [k for k in range(many) if old[k] != new[k]])

    def test_the_told_list_is_the_askers_own(self):
        first = touched(THREE, (0, 1, 9))
        first.append(2)
        self.assertEqual(touched(THREE, (0, 1, 9)), [0, 1])


class WithLeapsTest(unittest.TestCase):
    def test_other_leaps(self):
        for leaps in ((0, 1), (1, 0), (30, 30), (0, 30), (7, 5)):
            told = left_alone(self, with_leaps, PAIR, leaps)
            self.assertEqual(told, with_part(PAIR, 2, leaps))
        numbers = Numbers(23)
        for web in all_webs():
            leaps = some_leaps(numbers, len(web[0]))
            told = left_alone(self, with_leaps, web, leaps)
            self.assertEqual(told, with_part(web, 2, leaps))
            self.assertIs(is_web(told), True)
            self.assertEqual(with_leaps(told, web[2]), web)

    def test_refused(self):
        for thing in NO_LEAPS + OF_ANY_KIND + ((HUGE, 1),):
            if thing != (1, 2):
                before = repr(thing)
                with self.subTest(thing=thing), self.assertRaises(NoChange):
                    with_leaps(PAIR, thing)
                self.assertEqual(repr(thing), before)
        with self.assertRaises(NoChange):
            with_leaps(TEN, (0,) * 10)
        with self.assertRaises(NoChange):
            with_leaps(TEN, (1,) * 9)


if __name__ == "__main__":
    unittest.main()
