import time
import unittest

from leapranks.byprime import goings_by
from leapranks.columns import column_of
from leapranks.errors import NoLuck, NoPrime
from leapranks.exact import exact_lot
from leapranks.primes import is_prime
from leapranks.tables import table_of
from tests.examples import (ALWAYS, HUGE, LONE, LONE_LOOP, OF_ANY_KIND, PAIR, PAIR_FALLS, TEN, THREE, THREE_FALLS, all_webs,
                            left_alone)
from tests.test_primes import sieve

SMALL_PRIMES = [one for one, prime in enumerate(sieve(60)) if prime]
GREAT_PRIMES = [one for one, prime in enumerate(sieve(999984)) if prime][-20:]


class GoingsByTest(unittest.TestCase):
    def told(self, web, prime, goings):
        self.assertEqual(left_alone(self, goings_by, web, prime), goings)

    def refused(self, kind, web, prime):
        before = repr(prime)
        with self.subTest(web=web, prime=prime), self.assertRaises(kind):
            goings_by(web, prime)
        self.assertEqual(repr(prime), before)

    def test_by_hand(self):
        self.told(LONE, 2, (1,))
        self.told(LONE, 999983, (1,))
        self.told(PAIR, 3, (1, 2))
        self.told(PAIR, 7, (2, 4))
        # 7 of 22 and 2 of 22 are, by 5, 2 of 2 and 2 of 2.
        self.told(PAIR_FALLS, 5, (1, 1))

    def test_that_fit_by_residues(self):
        lucks = []
        for web in all_webs():
            places = range(len(web[0]))
            columns = [column_of(web, a) for a in places]
            one = table_of(web)[0]
            for prime in SMALL_PRIMES + GREAT_PRIMES[-3:]:
                lucks.append(one % prime != 0)
                if one % prime == 0:
                    self.refused(NoLuck, web, prime)
                    continue
                goings = left_alone(self, goings_by, web, prime)
                self.assertTrue(len(goings) == len(web[0]) and all(0 <= going < prime for going in goings))
                for j in places:
                    self.assertEqual((sum(columns[a][j] * goings[a] for a in places) - web[2][j]) % prime, 0)
        self.assertGreater(lucks.count(True), 50)
        self.assertGreater(lucks.count(False), 50)

    def test_are_those_of_the_exact_lot(self):
        for web in all_webs():
            grains, goings, rest = exact_lot(web)
            for prime in (7, 97, 999979, 999983):
                if table_of(web)[0] % prime:
                    told = goings_by(web, prime)
                    self.assertEqual([one * grains % prime for one in told], [going % prime for going in goings])

    def test_a_first_number_that_the_prime_divides(self):
        # The first column's number at its own place is 19: an elimination in just this order wouldn't do.
        self.assertEqual(column_of(THREE, 0)[0], 19)
        self.assertNotEqual(table_of(THREE)[0] % 19, 0)
        grains, goings, rest = exact_lot(THREE)
        self.assertEqual([one * grains % 19 for one in goings_by(THREE, 19)], [going % 19 for going in goings])

    def test_no_luck(self):
        self.assertEqual(table_of(PAIR)[0], 4)
        self.refused(NoLuck, PAIR, 2)
        self.assertEqual(table_of(PAIR_FALLS)[0], 22)
        self.refused(NoLuck, PAIR_FALLS, 2)
        self.refused(NoLuck, PAIR_FALLS, 11)
        self.assertEqual(table_of(ALWAYS)[0], 3969)
        self.refused(NoLuck, ALWAYS, 3)
        self.refused(NoLuck, ALWAYS, 7)
        self.told(ALWAYS, 5, (2, 0, 0))

    def test_no_luck_where_the_exact_lot_has_fewer_grains(self):
        # 30 over 30 are, in the exact lot, 1 over 1: but the table's one is 30.
        self.assertEqual(exact_lot(LONE_LOOP), (1, (1,), (0,)))
        for prime in (2, 3, 5):
            self.refused(NoLuck, LONE_LOOP, prime)
        self.told(LONE_LOOP, 7, (1,))

    def test_no_prime(self):
        for thing in OF_ANY_KIND + (-7, -2, 4, 9, 91, 561, 999981, 999982, 999984, 1000003, HUGE, [7], (7,), "7", {7: 7},
                                    [2, 3]):
            if thing != 7:
                self.refused(NoPrime, PAIR, thing)
        self.told(PAIR, 7, (2, 4))

    def test_twenty_great_ones(self):
        start = time.monotonic()
        for prime in GREAT_PRIMES:
            self.assertIs(is_prime(prime), True)
            goings_by(TEN, prime)
        self.assertLess(time.monotonic() - start, 5)
        self.assertEqual(GREAT_PRIMES[-1], 999983)

    def test_asked_behind_another_web(self):
        first = goings_by(THREE, 101)
        goings_by(THREE_FALLS, 101)
        goings_by(THREE, 103)
        self.told(THREE, 101, first)


if __name__ == "__main__":
    unittest.main()
