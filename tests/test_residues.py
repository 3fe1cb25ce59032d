import math
import time
import unittest

from leapranks.errors import NoLuck, NoPrime, TooFew
from leapranks.exact import exact_lot
from leapranks.residues import exact_by, span_of
from leapranks.rows import weight_of
from leapranks.tables import table_of
from tests.examples import (ALWAYS, LONE, LONE_LOOP, OF_ANY_KIND, PAIR, PAIR_FALLS, TEN, TEN_FALL, THREE, THREE_FALLS,
                            all_webs, left_alone)
from tests.test_byprime import GREAT_PRIMES, SMALL_PRIMES

NO_PRIMES = ([], [4], [1], [0], [-7], [999984], [1000003], [True], [False], [None], ["7"], [[7]], [(7,)], [{}], [7, 7],
             [7, 11, 7], [7, True], [7, None], [7, 9], (7,), (7, 11), 7, "7", {7: 11}, {}, None, True, GREAT_PRIMES + [7],
             tuple(GREAT_PRIMES), GREAT_PRIMES[:19] + GREAT_PRIMES[:1], GREAT_PRIMES[:19] + [True], [[7, 11]])


def lucky(web):
    """The great primes that do not divide the table's one, one behind the other."""
    return [prime for prime in GREAT_PRIMES if table_of(web)[0] % prime]


def just_enough(web):
    """As few of the lucky primes, from the first, as there must be."""
    primes = lucky(web)
    many = 1
    while math.prod(primes[:many]) <= 2 * span_of(web) ** 2:
        many += 1
    return primes[:many]


class SpanOfTest(unittest.TestCase):
    def told(self, web, span):
        self.assertEqual(left_alone(self, span_of, web), span)

    def test_by_hand(self):
        self.told(LONE, 1)
        self.told(LONE_LOOP, 30 * 12 * 30)
        self.told(PAIR, 4 * 2)
        self.told(PAIR_FALLS, 4 * 8)
        self.told(THREE, 7 * 21 * 3 * 9)
        self.told(THREE_FALLS, 7 * 28 * 28 * 12)

    def test_as_the_point_tells(self):
        for web in all_webs():
            weights = [weight_of(web, a) for a in range(len(web[0]))]
            self.told(web, sum(web[2]) * math.prod(web[3][1] * weight for weight in weights))

    def test_no_top_or_bottom_is_above_it(self):
        for web in all_webs():
            grains, goings, rest = exact_lot(web)
            self.assertLessEqual(max(grains, *goings), span_of(web))


class ExactByTest(unittest.TestCase):
    def told(self, web, primes):
        self.assertEqual(left_alone(self, exact_by, web, primes), exact_lot(web))

    def refused(self, kind, web, primes):
        before = repr(primes)
        with self.subTest(web=web, primes=primes), self.assertRaises(kind):
            exact_by(web, primes)
        self.assertEqual(repr(primes), before)

    def test_by_hand(self):
        self.assertEqual(exact_by(LONE, [3]), (1, (1,), (0,)))
        self.assertEqual(exact_by(PAIR_FALLS, [13, 17, 19]), (22, (7, 2), (0, 0)))
        self.assertEqual(exact_by(PAIR, [131]), (4, (1, 2), (0, 0)))

    def test_twenty_great_ones(self):
        start = time.monotonic()
        for web in all_webs():
            if len(lucky(web)) == 20:
                self.told(web, GREAT_PRIMES)
                self.told(web, GREAT_PRIMES[::-1])
        self.assertLess(time.monotonic() - start, 20)
        self.assertEqual(len(lucky(TEN)), 20)

    def test_just_enough_and_one_too_few(self):
        for web in all_webs():
            primes = just_enough(web)
            self.told(web, primes)
            if len(primes) > 1:
                self.refused(TooFew, web, primes[:-1])
        self.assertGreater(len(just_enough(TEN)), 10)

    def test_small_primes(self):
        for web in all_webs():
            primes = [prime for prime in SMALL_PRIMES if table_of(web)[0] % prime]
            if math.prod(primes) > 2 * span_of(web) ** 2:
                self.told(web, primes)

    def test_just_twice_the_square_of_the_span(self):
        # The span of LONE is 1: 2 is twice its square, 3 is above that.
        self.refused(TooFew, LONE, [2])
        self.told(LONE, [3])
        self.told(LONE, [2, 3])
        # That of PAIR is 8: twice its square is 128.
        self.refused(TooFew, PAIR, [127])
        self.told(PAIR, [131])
        self.refused(TooFew, PAIR, [3, 41])
        self.told(PAIR, [3, 43])

    def test_no_prime(self):
        for thing in NO_PRIMES + OF_ANY_KIND:
            self.refused(NoPrime, PAIR, thing)
        self.refused(NoPrime, PAIR, SMALL_PRIMES[1:] + [4])
        self.refused(NoPrime, PAIR, [4] + SMALL_PRIMES[1:])
        self.refused(NoPrime, LONE, [2, 2])

    def test_no_prime_goes_ahead_of_too_few_and_no_luck(self):
        self.refused(NoPrime, TEN, [4])
        self.refused(NoPrime, PAIR, [2, 4])
        self.refused(NoPrime, PAIR, [2, 999983, 999983])

    def test_too_few_goes_ahead_of_no_luck(self):
        self.assertEqual(table_of(PAIR_FALLS)[0], 22)
        self.refused(TooFew, PAIR_FALLS, [2])
        self.refused(TooFew, PAIR_FALLS, [11, 2])
        self.refused(TooFew, PAIR_FALLS, [2, 11, 13])
        self.refused(NoLuck, PAIR_FALLS, [2, 11, 97])

    def test_no_luck(self):
        for primes in ([2, 999983], [999983, 2], [11, 999983], [999983, 11, 999979]):
            self.refused(NoLuck, PAIR_FALLS, primes)
        for web in all_webs():
            for prime in SMALL_PRIMES[:4]:
                if table_of(web)[0] % prime == 0:
                    self.refused(NoLuck, web, [*just_enough(web), prime])

    def test_always_leaping_and_falling(self):
        for web in (ALWAYS, TEN_FALL):
            self.told(web, just_enough(web))

    def test_asked_behind_another_web(self):
        first = exact_by(THREE, GREAT_PRIMES)
        exact_by(THREE_FALLS, GREAT_PRIMES)
        self.assertEqual(exact_by(THREE, GREAT_PRIMES), first)
        handed = list(GREAT_PRIMES)
        told = exact_by(THREE, handed)
        handed.clear()
        self.assertEqual(told, first)


if __name__ == "__main__":
    unittest.main()
