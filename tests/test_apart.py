import itertools
import unittest

from leapranks.apart import apart, lies_between, way_between
from tests.examples import Numbers, left_alone
from tests.test_turned import some_order

TEN_ROW = tuple(range(10))


def pairs_apart(one, other):
    """How many pairs stand in unlike orders, pair by pair."""
    return sum((one.index(a) < one.index(b)) != (other.index(a) < other.index(b))
               for a, b in itertools.combinations(one, 2))


def exchanged(ranking, step):
    """The ranking with two neighbours exchanged."""
    row = list(ranking)
    row[step], row[step + 1] = row[step + 1], row[step]
    return tuple(row)


def walked(ranking, way):
    for step in way:
        ranking = exchanged(ranking, step)
    return ranking


def fewest_exchanges(start):
    """For each ranking the least number of exchanges of neighbours from the start, tried out."""
    found, edge = {start: 0}, [start]
    while edge:
        met = []
        for ranking in edge:
            for step in range(len(ranking) - 1):
                other = exchanged(ranking, step)
                if other not in found:
                    found[other] = found[ranking] + 1
                    met.append(other)
        edge = met
    return found


class ApartTest(unittest.TestCase):
    def told(self, one, other, many):
        self.assertEqual(left_alone(self, apart, one, other), many)
        self.assertIs(type(apart(one, other)), int)

    def test_by_hand(self):
        self.told((0,), (0,), 0)
        self.told((0, 1), (1, 0), 1)
        self.told((0, 1, 2), (2, 0, 1), 2)
        self.told((2, 0, 1), (0, 2, 1), 1)
        self.told((0, 1, 2, 3), (3, 1, 2, 0), 5)

    def test_alike_ones(self):
        for many in range(1, 6):
            for ranking in itertools.permutations(range(many)):
                self.told(ranking, ranking, 0)
        self.told(TEN_ROW, TEN_ROW, 0)

    def test_neighbours_exchanged(self):
        for step in range(9):
            self.told(TEN_ROW, exchanged(TEN_ROW, step), 1)

    def test_read_from_behind(self):
        for many in range(1, 11):
            self.told(tuple(range(many)), tuple(range(many))[::-1], many * (many - 1) // 2)

    def test_are_the_fewest_exchanges(self):
        for many in range(1, 6):
            for start in (tuple(range(many)), tuple(range(many))[::-1]):
                for ranking, steps in fewest_exchanges(start).items():
                    self.told(start, ranking, steps)

    def test_pair_by_pair(self):
        numbers = Numbers(110)
        for turn in range(300):
            many = numbers.between(1, 10)
            one, other = some_order(numbers, many), some_order(numbers, many)
            self.told(one, other, pairs_apart(one, other))
            self.told(other, one, pairs_apart(one, other))


class WayBetweenTest(unittest.TestCase):
    def told(self, one, other):
        way = left_alone(self, way_between, one, other)
        self.assertIs(type(way), list)
        self.assertTrue(all(type(step) is int and 0 <= step < len(one) - 1 for step in way), way)
        self.assertEqual(walked(one, way), other)
        self.assertEqual(len(way), pairs_apart(one, other))

    def test_by_hand(self):
        self.assertEqual(way_between((0,), (0,)), [])
        self.assertEqual(way_between((0, 1), (0, 1)), [])
        self.assertEqual(way_between((0, 1), (1, 0)), [0])
        self.assertEqual(way_between((0, 1, 2), (0, 2, 1)), [1])
        self.assertEqual(way_between((0, 1, 2), (2, 0, 1)), [1, 0])

    def test_all_of_few_places(self):
        for many in range(1, 5):
            for one in itertools.permutations(range(many)):
                for other in itertools.permutations(range(many)):
                    self.told(one, other)

    def test_of_ten_places(self):
        numbers = Numbers(111)
        self.told(TEN_ROW, TEN_ROW[::-1])
        self.told(TEN_ROW, TEN_ROW)
        for turn in range(200):
            self.told(some_order(numbers, 10), some_order(numbers, 10))

    def test_each_step_leads_nearer(self):
        numbers = Numbers(112)
        for turn in range(50):
            one, other = some_order(numbers, 8), some_order(numbers, 8)
            for step in way_between(one, other):
                ahead = apart(one, other)
                one = exchanged(one, step)
                self.assertEqual(apart(one, other), ahead - 1)
            self.assertEqual(one, other)

    def test_the_told_list_is_the_askers_own(self):
        first = way_between(TEN_ROW, TEN_ROW[::-1])
        kept = list(first)
        first.clear()
        way_between((0, 1), (1, 0)).append(7)
        self.assertEqual(way_between(TEN_ROW, TEN_ROW[::-1]), kept)
        self.assertEqual(way_between((0, 1), (1, 0)), [0])


class LiesBetweenTest(unittest.TestCase):
    def told(self, one, middle, other, answer):
        self.assertIs(left_alone(self, lies_between, one, middle, other), answer)

    def test_by_hand(self):
        self.told((0,), (0,), (0,), True)
        self.told((0, 1, 2), (0, 2, 1), (2, 0, 1), True)
        self.told((0, 1, 2), (1, 0, 2), (2, 0, 1), False)
        self.told((0, 1, 2), (2, 1, 0), (2, 0, 1), False)
        self.told((0, 1), (1, 0), (0, 1), False)

    def test_the_two_themselves(self):
        numbers = Numbers(113)
        for turn in range(100):
            many = numbers.between(1, 10)
            one, other = some_order(numbers, many), some_order(numbers, many)
            self.told(one, one, other, True)
            self.told(one, other, other, True)
            self.told(one, other, one, one == other)

    def test_between_one_and_the_same(self):
        for middle in itertools.permutations(range(3)):
            self.told((0, 1, 2), middle, (0, 1, 2), middle == (0, 1, 2))

    def test_all_between_what_is_read_from_behind(self):
        for middle in itertools.permutations(range(4)):
            self.told((0, 1, 2, 3), middle, (3, 2, 1, 0), True)

    def test_each_pair_as_in_one_of_the_two(self):
        numbers = Numbers(114)
        answers = set()
        for turn in range(400):
            many = numbers.between(2, 4)
            one, middle, other = (some_order(numbers, many) for k in range(3))
            answer = all((middle.index(a) < middle.index(b)) in (one.index(a) < one.index(b), other.index(a) < other.index(b))
                         for a, b in itertools.combinations(range(many), 2))
            self.told(one, middle, other, answer)
            answers.add(answer)
        self.assertEqual(answers, {True, False})

    def test_all_on_a_way(self):
        numbers = Numbers(115)
        for turn in range(30):
            one, other = some_order(numbers, 10), some_order(numbers, 10)
            now = one
            for step in way_between(one, other):
                now = exchanged(now, step)
                self.told(one, now, other, True)


if __name__ == "__main__":
    unittest.main()
