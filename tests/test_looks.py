import math
import unittest

from leapranks.columns import column_of
from leapranks.errors import NoPrime, TooFew
from leapranks.exact import exact_lot
from leapranks.looks import looked_at, reach_of
from leapranks.lots import begun, is_lot, lot_by
from tests.examples import (HUGE, LONE, OF_ANY_KIND, PAIR, PAIR_FALLS, TEN, THREE, THREE_FALLS, Numbers, left_alone,
                            with_part)
from tests.test_byprime import GREAT_PRIMES
from tests.test_ends import THIRTY, lots_of_all_kinds
from tests.test_lots import some_goings
from tests.test_residues import NO_PRIMES

NO_FORMS = ((0, (1, 2), (0, 0)), (-4, (1, 2), (0, 0)), (True, (1, 2), (0, 0)), (4, (True, 2), (0, 0)), (4, (1, 2), (0, False)),
            (4, (1,), (0, 0)), (4, (1, 2), (0,)), (4, (1, 2, 3), (0, 0)), (4, (1, 2), (0, 0, 0)), (4, (1, 2)), (4,), (),
            (4, (1, 2), (0, 0), 0), [4, (1, 2), (0, 0)], (4, [1, 2], (0, 0)), (4, (1, 2), [0, 0]), ("4", (1, 2), (0, 0)),
            (4, ("1", 2), (0, 0)), (4, (1, None), (0, 0)), (None, (1, 2), (0, 0)), "lot 4: 1,2: 0,0", (4, (), ()),
            ((4, (1, 2), (0, 0)),), {0: 4}, (0, (0, 0), (0, 0)))


def reach_by_the_point(web, lot):
    grains, goings, rest = lot
    places = range(len(goings))
    return max(abs(rest[j]) + sum(abs(goings[a] * column_of(web, a)[j]) for a in places) + grains * web[2][j] for j in places)


def some_off(numbers, lot, by):
    """The lot with its grains, a going or a rest more by so much."""
    grains, goings, rest = lot
    at, kind = numbers.below(len(goings)), numbers.below(3)
    if kind == 0:
        return (grains + by, goings, rest)
    if kind == 1:
        return (grains, with_part(goings, at, goings[at] + by), rest)
    return (grains, goings, with_part(rest, at, rest[at] - by))


class ReachOfTest(unittest.TestCase):
    def told(self, web, lot, reach):
        self.assertEqual(left_alone(self, reach_of, web, lot), reach)

    def test_by_hand(self):
        self.told(LONE, (3, (2,), (1,)), 6)
        self.told(LONE, (3, (-2,), (-1,)), 6)
        self.told(PAIR, (4, (1, 2), (0, 0)), 8)
        self.told(PAIR, (4, (-1, -2), (0, 0)), 8)
        self.told(PAIR, (1, (0, 0), (0, 90)), 90)
        self.told(PAIR, (1, (1, 10), (-5, 7)), 19)
        self.told(PAIR_FALLS, (22, (7, -2), (0, 0)), 56)

    def test_as_the_point_tells(self):
        for web, lot in lots_of_all_kinds(200):
            self.told(web, lot, reach_by_the_point(web, lot))

    def test_of_a_lots_form_that_does_not_fit(self):
        numbers = Numbers(201)
        for web, lot in lots_of_all_kinds(202):
            spoilt = some_off(numbers, lot, HUGE)
            self.told(web, spoilt, reach_by_the_point(web, spoilt))


class LookedAtTest(unittest.TestCase):
    def told(self, web, thing, primes, answer):
        with self.subTest(thing=thing, primes=primes):
            self.assertIs(left_alone(self, looked_at, web, thing, primes), answer)

    def refused(self, kind, web, thing, primes):
        before = repr((thing, primes))
        with self.subTest(thing=thing, primes=primes), self.assertRaises(kind):
            looked_at(web, thing, primes)
        self.assertEqual(repr((thing, primes)), before)

    def test_by_hand(self):
        self.told(PAIR, (4, (1, 2), (0, 0)), [11], True)
        self.told(PAIR, (4, (1, 2), (0, 1)), [11], False)
        self.told(PAIR, (4, (1, 2), (0, 0)), [3, 5], True)
        self.told(PAIR, (5, (1, 2), (0, 0)), [3, 5], False)
        self.told(LONE, (1, (1,), (0,)), [3], True)

    def test_true_just_where_it_fits(self):
        numbers = Numbers(203)
        answers = []
        for web, lot in lots_of_all_kinds(204):
            for other in (lot, some_off(numbers, lot, 1), some_off(numbers, lot, GREAT_PRIMES[0]),
                          some_off(numbers, lot, GREAT_PRIMES[0] * GREAT_PRIMES[1]),
                          some_off(numbers, lot, math.prod(GREAT_PRIMES[:9]))):
                if reach_by_the_point(web, other) < math.prod(GREAT_PRIMES):
                    answer = is_lot(web, other)
                    self.told(web, other, GREAT_PRIMES, answer)
                    answers.append(answer)
                else:
                    self.refused(TooFew, web, other, GREAT_PRIMES)
        self.assertGreater(answers.count(True), 50)
        self.assertGreater(answers.count(False), 50)

    def test_off_by_a_prime_or_the_product_of_some(self):
        primes = GREAT_PRIMES[:4]
        for web in (LONE, PAIR, PAIR_FALLS, THREE, THREE_FALLS):
            grains, goings, rest = exact_lot(web)
            self.told(web, (grains, goings, rest), primes, True)
            for by in (1, -1, *primes, primes[0] * primes[1], -primes[1] * primes[3], math.prod(primes[1:])):
                self.told(web, (grains, goings, with_part(rest, 0, by)), primes, False)
                if abs(by) < 10 ** 13:
                    self.told(web, (grains, with_part(goings, 0, goings[0] + by), rest), primes, False)
                    self.told(web, (grains + abs(by), goings, rest), primes, False)

    def test_just_the_reach_and_just_above_it(self):
        # By one prime alone, or by some, the product is the reach, or one below or above it.
        self.told(LONE, (3, (2,), (1,)), [7], True)
        self.refused(TooFew, LONE, (3, (2,), (2,)), [7])
        self.told(LONE, (1, (-4,), (0,)), [7], False)
        self.refused(TooFew, LONE, (1, (-4,), (2,)), [7])
        self.refused(TooFew, LONE, (1, (-2,), (3,)), [2, 3])
        self.told(LONE, (1, (-1,), (2,)), [5], True)
        self.refused(TooFew, LONE, (1, (-1,), (2,)), [2])
        self.refused(TooFew, LONE, (1, (-1,), (2,)), [3])
        self.refused(TooFew, PAIR, (4, (1, 2), (0, 0)), [7])
        self.refused(TooFew, PAIR, (4, (1, 2), (0, 0)), [2, 3])
        for prime in (101, 997, 999983):
            # At the place a lone one has its grains and its rest: together just so many.
            half = prime // 2
            self.told(LONE, (half, (0,), (half,)), [prime], True)
            self.refused(TooFew, LONE, (half, (0,), (half + 1,)), [prime])
            self.refused(TooFew, LONE, (half + 1, (0,), (half + 1,)), [prime])

    def test_where_the_prime_alone_would_let_by(self):
        # The sides are 0 and 7: by 7 they leave the same, but 7 is no greater than the reach.
        self.refused(TooFew, LONE, (7, (0,), (0,)), [7])
        self.told(LONE, (7, (0,), (0,)), [11], False)
        self.told(LONE, (7, (0,), (0,)), [7, 2], False)
        self.told(LONE, (7, (0,), (0,)), [2, 7], False)

    def test_primes_that_divide_the_tables_one(self):
        self.told(PAIR_FALLS, (22, (7, 2), (0, 0)), [2, 11, 13], True)
        self.told(PAIR_FALLS, (22, (7, 2), (0, 1)), [2, 11, 13], False)

    def test_great_lots(self):
        goings = some_goings(Numbers(205), 10, THIRTY)
        lot = lot_by(TEN, THIRTY, goings)
        self.told(TEN, lot, GREAT_PRIMES, True)
        self.refused(TooFew, TEN, lot, GREAT_PRIMES[:5])
        self.refused(TooFew, TEN, lot_by(TEN, HUGE, goings), GREAT_PRIMES)

    def test_another_form(self):
        for thing in NO_FORMS + OF_ANY_KIND:
            self.told(PAIR, thing, [101], False)

    def test_another_form_goes_ahead_of_too_few(self):
        for thing in NO_FORMS + OF_ANY_KIND + ((-HUGE, (HUGE, HUGE), (0, 0)), (HUGE, (HUGE, True), (HUGE, HUGE))):
            self.told(PAIR, thing, [2], False)
        self.refused(TooFew, PAIR, (4, (1, 2), (0, 0)), [2])
        self.refused(TooFew, PAIR, (4, (1, 2), (0, 1)), [2])

    def test_no_prime_goes_ahead_of_all(self):
        for primes in NO_PRIMES + OF_ANY_KIND:
            for thing in ((4, (1, 2), (0, 0)), (4, (1, 2), (0, 1)), (HUGE, (1, 2), (0, 0)), None, (), [], "", (4, (1,), (0,))):
                self.refused(NoPrime, PAIR, thing, primes)

    def test_asked_behind_another_web(self):
        lot = begun(THREE, 5)
        for turn in range(2):
            self.told(THREE, lot, [101], True)
            self.told(THREE_FALLS, with_part(lot, 1, (1, 0, 0)), [101], False)


if __name__ == "__main__":
    unittest.main()
