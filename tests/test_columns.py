import unittest

from leapranks.columns import column_of, size_of
from leapranks.rows import row_of, weight_of
from tests.examples import ALWAYS, LONE, LONE_LOOP, PAIR, PAIR_FALLS, THREE, THREE_FALLS, all_webs, left_alone


class ColumnsTest(unittest.TestCase):
    def told(self, web, a, column):
        self.assertEqual(left_alone(self, column_of, web, a), column)
        self.assertEqual(left_alone(self, size_of, web, a), column[a])

    def test_by_hand(self):
        self.told(PAIR, 0, (4, -2))
        self.told(PAIR, 1, (0, 1))
        self.told(PAIR_FALLS, 1, (-3, 7))
        self.told(THREE, 0, (19, -4, -8))
        self.told(THREE, 1, (0, 1, 0))
        self.told(THREE, 2, (-6, 0, 9))
        self.told(LONE_LOOP, 0, (30,))

    def test_chance_not_in_lowest_terms(self):
        self.told(THREE_FALLS, 0, (26, -4, -8))
        self.told(THREE_FALLS, 1, (0, 16, -2))
        self.told(THREE_FALLS, 2, (-6, 0, 12))

    def test_always_leaping(self):
        self.told(ALWAYS, 0, (21, 0, 0))
        self.told(ALWAYS, 1, (0, 21, 0))
        self.told(ALWAYS, 2, (0, 0, 9))
        self.told(LONE, 0, (1,))

    def test_as_the_point_tells(self):
        for web in all_webs():
            p, q = web[3]
            for a in range(len(web[0])):
                row, column = row_of(web, a), left_alone(self, column_of, web, a)
                self.assertIsInstance(column, tuple)
                self.assertEqual(len(column), len(row))
                self.assertEqual(column[a], q * sum(row) - (q - p) * row[a])
                for b in range(len(row)):
                    if b != a:
                        self.assertEqual(column[b], (p - q) * row[b])

    def test_sizes_and_sums(self):
        for web in all_webs():
            for a in range(len(web[0])):
                self.assertGreaterEqual(left_alone(self, size_of, web, a), 1)
                self.assertEqual(size_of(web, a), column_of(web, a)[a])
                self.assertEqual(sum(column_of(web, a)), web[3][0] * weight_of(web, a))


if __name__ == "__main__":
    unittest.main()
