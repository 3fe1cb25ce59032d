import unittest

from leapranks.rows import row_of, weight_of
from tests.examples import (ALWAYS, LONE, LONE_LOOP, PAIR, PAIR_FALLS, TEN_BARE, TEN_FALL, THREE, THREE_FALLS,
                            all_webs, left_alone)


class RowsTest(unittest.TestCase):
    def told(self, web, a, row):
        self.assertEqual(left_alone(self, row_of, web, a), row)
        self.assertEqual(left_alone(self, weight_of, web, a), sum(row))

    def test_places_with_ties(self):
        self.told(PAIR, 0, (0, 2))
        self.told(PAIR_FALLS, 0, (0, 2))
        self.told(LONE_LOOP, 0, (30,))
        for web in (THREE, THREE_FALLS, ALWAYS):
            self.told(web, 0, (1, 2, 4))
            self.told(web, 2, (3, 0, 0))
        self.told(TEN_FALL, 9, (1, 0, 0, 0, 0, 0, 0, 0, 0, 0))

    def test_places_that_fall(self):
        self.told(PAIR_FALLS, 1, (3, 1))
        self.told(THREE_FALLS, 1, (0, 6, 1))
        for a in range(9):
            self.told(TEN_FALL, a, (1, 2, 3, 4, 5, 6, 7, 8, 9, 10))

    def test_places_that_stay(self):
        self.told(PAIR, 1, (0, 1))
        self.told(LONE, 0, (1,))
        self.told(THREE, 1, (0, 1, 0))
        for a in range(10):
            self.told(TEN_BARE, a, tuple(int(b == a) for b in range(10)))

    def test_weights_are_told_as_numbers(self):
        self.assertEqual(weight_of(THREE, 0), 7)
        self.assertEqual(weight_of(THREE, 1), 1)
        self.assertEqual(weight_of(THREE_FALLS, 1), 7)

    def test_rows_of_all_webs(self):
        for web in all_webs():
            for a in range(len(web[0])):
                weights = {goal: weight for start, goal, weight in web[1] if start == a}
                row = left_alone(self, row_of, web, a)
                self.assertIsInstance(row, tuple)
                self.assertEqual(len(row), len(web[0]))
                if weights:
                    self.assertEqual(row, tuple(weights.get(b, 0) for b in range(len(web[0]))))
                self.assertGreaterEqual(weight_of(web, a), 1)

    def test_asked_behind_another_web(self):
        first = row_of(THREE, 1)
        row_of(THREE_FALLS, 1)
        self.assertEqual(row_of(THREE, 1), first)


if __name__ == "__main__":
    unittest.main()
