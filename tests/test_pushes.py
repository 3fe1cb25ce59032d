import unittest

from leapranks.columns import column_of, size_of
from leapranks.errors import NoPush
from leapranks.lots import begun, is_lot, lot_by
from leapranks.pushes import can_push, push
from leapranks.rows import weight_of
from tests.examples import ALWAYS, HUGE, OF_ANY_KIND, PAIR, PAIR_FALLS, TEN, THREE, Numbers, all_webs, left_alone
from tests.test_lots import some_goings


def some_lots(seed):
    numbers = Numbers(seed)
    for web in all_webs():
        yield web, begun(web, 1000)
        for most in (1, 60, 10 ** 20, HUGE):
            yield web, lot_by(web, numbers.between(1, most), some_goings(numbers, len(web[0]), most))


def resting(lot):
    return sum(abs(number) for number in lot[2])


class CanPushTest(unittest.TestCase):
    def test_by_hand(self):
        for lot, told in (((4, (0, 0), (4, 0)), [0]), ((3, (0, 0), (3, 0)), []), ((4, (1, 0), (0, 2)), [1]),
                          ((4, (1, 2), (0, 0)), []), ((4, (-1, 5), (8, -7)), [0, 1]), ((1, (1, 1), (-3, 1)), [1]),
                          ((1, (2, 5), (-7, -1)), [0, 1])):
            self.assertIs(is_lot(PAIR, lot), True)
            self.assertEqual(left_alone(self, can_push, PAIR, lot), told)

    def test_rests_of_just_the_size(self):
        self.assertEqual(can_push(PAIR_FALLS, (1, (0, 1), (4, -7))), [0, 1])
        self.assertEqual(can_push(ALWAYS, (2, (0, 0, 0), (4, 0, 10))), [2])

    def test_as_the_point_tells(self):
        for web, lot in some_lots(17):
            told = left_alone(self, can_push, web, lot)
            self.assertEqual(told, [a for a in range(len(web[0])) if abs(lot[2][a]) >= size_of(web, a)])

    def test_the_told_list_is_the_askers_own(self):
        lot = begun(TEN, 1000)
        first = can_push(TEN, lot)
        kept = list(first)
        first.append(99)
        first[0] = None
        self.assertEqual(can_push(TEN, lot), kept)


class PushTest(unittest.TestCase):
    def test_by_hand(self):
        self.assertEqual(left_alone(self, push, PAIR, (4, (0, 0), (4, 0)), 0, 1), (4, (1, 0), (0, 2)))
        self.assertEqual(left_alone(self, push, PAIR, (4, (1, 0), (0, 2)), 1, 2), (4, (1, 2), (0, 0)))
        self.assertEqual(left_alone(self, push, PAIR, (4, (-1, 5), (8, -7)), 1, -7), (4, (-1, -2), (8, 0)))
        self.assertEqual(left_alone(self, push, PAIR, (4, (-1, 5), (8, -7)), 0, 2), (4, (1, 5), (0, -3)))
        self.assertEqual(left_alone(self, push, PAIR_FALLS, (1, (0, 1), (4, -7)), 1, -1), (1, (0, 0), (1, 0)))

    def test_by_one_and_by_as_many_as_can_be(self):
        for web, lot in some_lots(18):
            p = web[3][0]
            for a in can_push(web, lot):
                sign = 1 if lot[2][a] > 0 else -1
                most = abs(lot[2][a]) // size_of(web, a)
                for many in {sign, sign * most, sign * (most // 2 + 1)}:
                    told = left_alone(self, push, web, lot, a, many)
                    self.assertEqual(told[0], lot[0])
                    for b in range(len(web[0])):
                        self.assertEqual(told[1][b] - lot[1][b], many if b == a else 0)
                        self.assertEqual(lot[2][b] - told[2][b], many * column_of(web, a)[b])
                    self.assertIs(is_lot(web, told), True)
                    self.assertLessEqual(resting(told), resting(lot) - abs(many) * p * weight_of(web, a))

    def refused(self, web, lot, a, many):
        with self.subTest(web=web, lot=lot, a=a, many=many):
            before = repr((web, lot, a, many))
            with self.assertRaises(NoPush):
                push(web, lot, a, many)
            self.assertEqual(repr((web, lot, a, many)), before)

    def test_refused_numbers(self):
        for web, lot in some_lots(19):
            for a in range(len(web[0])):
                sign = -1 if lot[2][a] < 0 else 1
                most = abs(lot[2][a]) // size_of(web, a)
                for many in (0, sign * (most + 1), -sign, -sign * most, sign * (most + 10 ** 30)):
                    self.refused(web, lot, a, many)

    def test_refused_things(self):
        lot = begun(THREE, 1000)
        self.assertEqual(push(THREE, lot, 0, 1)[1], (1, 0, 0))
        for many in (True, False, "1", "", None, [1], [], (1,), (), {}, {1: 1}):
            self.refused(THREE, lot, 0, many)
        for many in OF_ANY_KIND:
            if many not in (1, 7) or many is True:
                self.refused(THREE, lot, 0, many)

    def test_a_place_that_cannot_be_pushed(self):
        for many in (-2, -1, 0, 1, 2, None, True, "1"):
            self.refused(PAIR, (3, (0, 0), (3, 0)), 0, many)
            self.refused(PAIR, (3, (0, 0), (3, 0)), 1, many)
            self.refused(PAIR, (1, (1, 1), (-3, 1)), 0, many)

    def test_refused_changes_nothing(self):
        lot = begun(THREE, 1000)
        first = push(THREE, lot, 0, 3)
        self.refused(THREE, lot, 0, 0)
        self.refused(THREE, lot, 1, 1)
        self.assertEqual(push(THREE, lot, 0, 3), first)


if __name__ == "__main__":
    unittest.main()
