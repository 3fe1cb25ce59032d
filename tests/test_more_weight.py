"""More of a tie never lowers the place to which it leads."""

import unittest

from leapranks.changes import changed
from leapranks.lifts import share_behind
from leapranks.rows import row_of
from leapranks.shares import shares_of
from leapranks.tables import table_of
from tests.examples import (ALWAYS, LONE_LOOP, PAIR, PAIR_FALLS, TEN_BARE, THREE, TWO_ISLES, Numbers, all_webs)
from tests.walks import shares_by_elimination


def weight_now(web, a, b):
    return sum(tie[2] for tie in web[1] if tie[:2] == (a, b))


def leads_to_alone(row, b):
    return [goal for goal, number in enumerate(row) if number] == [b]


class MoreWeightTest(unittest.TestCase):
    def held(self, web, a, b, less, more):
        """Whether b's share is the same with less and with more weight."""
        poor, rich = changed(web, (a, b, less)), changed(web, (a, b, more))
        shares = shares_of(poor)
        before, behind = shares_by_elimination(poor)[b], shares_by_elimination(rich)[b]
        self.assertLessEqual(before, behind)
        same = web[3][0] == web[3][1] or shares[0][a] == 0 or leads_to_alone(row_of(poor, a), b)
        self.assertEqual(before == behind, same)
        table = table_of(web)
        self.assertEqual(share_behind(web, table, (a, b, less), b), (before.numerator, before.denominator))
        self.assertEqual(share_behind(web, table, (a, b, more), b), (behind.numerator, behind.denominator))
        return same

    def test_more_and_less(self):
        numbers = Numbers(130)
        answers = []
        for web in all_webs():
            for turn in range(6):
                a, b = numbers.below(len(web[0])), numbers.below(len(web[0]))
                if weight_now(web, a, b) or len(web[1]) < 40:
                    less = numbers.between(0, 29)
                    answers.append(self.held(web, a, b, less, numbers.between(less + 1, 30)))
        self.assertGreater(answers.count(True), 20)
        self.assertGreater(answers.count(False), 20)

    def test_where_it_is_the_same(self):
        self.assertTrue(self.held(ALWAYS, 0, 1, 0, 30))
        self.assertTrue(self.held(TWO_ISLES, 0, 1, 1, 30))
        self.assertTrue(self.held(TWO_ISLES, 0, 2, 0, 30))
        self.assertTrue(self.held(PAIR, 0, 1, 1, 2))
        self.assertTrue(self.held(PAIR, 1, 1, 0, 5))
        self.assertTrue(self.held(LONE_LOOP, 0, 0, 0, 1))
        self.assertTrue(self.held(TEN_BARE, 9, 9, 0, 1))

    def test_where_it_is_not(self):
        self.assertFalse(self.held(PAIR, 0, 1, 0, 1))
        self.assertFalse(self.held(PAIR, 1, 0, 0, 1))
        self.assertFalse(self.held(PAIR_FALLS, 1, 1, 0, 1))
        self.assertFalse(self.held(THREE, 0, 0, 1, 2))
        self.assertFalse(self.held(TEN_BARE, 9, 0, 0, 1))


if __name__ == "__main__":
    unittest.main()
