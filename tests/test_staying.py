import unittest

from leapranks.errors import NoPart
from leapranks.parts import least_closed
from leapranks.splits import is_split
from leapranks.staying import staying
from tests.examples import (ALWAYS, LONE, LONE_LOOP, OF_ANY_KIND, PAIR, PAIR_FALLS, TEN, TEN_BARE, THREE, THREE_FALLS,
                            TWO_ISLES, all_webs, left_alone, some_webs)
from tests.test_parts import RING, all_parts, least_by_trying
from tests.walks import chances_from, parts_of


class StayingTest(unittest.TestCase):
    def told(self, web, part, split):
        self.assertEqual(left_alone(self, staying, web, part), split)

    def test_one_place(self):
        self.told(LONE, (0,), ((1,), 1))
        self.told(LONE_LOOP, (0,), ((1,), 1))
        self.told(PAIR, (1,), ((0, 1), 1))
        for a in range(10):
            self.told(TEN_BARE, (a,), (tuple(int(a == b) for b in range(10)), 1))

    def test_all_places(self):
        self.told(PAIR_FALLS, (0, 1), ((3, 4), 7))
        self.told(RING, tuple(range(10)), ((1,) * 10, 10))

    def test_two_parts(self):
        self.told(TWO_ISLES, (0, 1), ((1, 1, 0, 0), 2))
        self.told(TWO_ISLES, (2, 3), ((0, 0, 1, 1), 2))

    def test_by_turns(self):
        # In a ring one goes round by turns: no walk comes to rest, but just one split is left as it is.
        ring = (("a", "b", "c", "d"), ((0, 2, 3), (1, 0, 1), (2, 1, 30), (3, 0, 1), (3, 3, 1)), (1, 1, 1, 1), (1, 2), ())
        self.told(ring, (0, 1, 2), ((1, 1, 1, 0), 3))
        both = (("a", "b", "c"), ((0, 1, 1), (0, 2, 2), (1, 0, 1), (2, 0, 5)), (1, 0, 0), (1, 2), ())
        self.told(both, (0, 1, 2), ((3, 1, 2), 6))

    def test_the_chance_and_the_leaps_do_not_count(self):
        for web in (PAIR_FALLS, THREE_FALLS, TEN, TWO_ISLES):
            for part in least_closed(web):
                split = staying(web, part)
                other = (web[0], web[1], (30,) + (0,) * (len(web[0]) - 1), (12, 12), web[4])
                self.told(other, part, split)
        self.told(ALWAYS, (0, 1, 2), staying(THREE_FALLS, (0, 1, 2)))

    def test_left_as_it_is_by_rows(self):
        found = 0
        for web in all_webs() + some_webs(180, 40):
            many = len(web[0])
            for part in least_closed(web):
                split = left_alone(self, staying, web, part)
                self.assertIs(is_split(many, split), True)
                self.assertEqual([a for a in range(many) if split[0][a]], list(part))
                shares = parts_of(split)
                rows = [chances_from(web, a) for a in range(many)]
                self.assertEqual([sum(shares[a] * rows[a][j] for a in range(many)) for j in range(many)], shares)
                found += 1 < len(part) < many
        self.assertGreater(found, 5)

    def refused(self, web, thing):
        before = repr(thing)
        with self.subTest(web=web, thing=thing), self.assertRaises(NoPart):
            staying(web, thing)
        self.assertEqual(repr(thing), before)

    def test_two_parts_together_a_place_left_out_or_put_in(self):
        for part in ((0, 1, 2, 3), (0,), (1,), (2,), (0, 1, 2), (0, 2, 3), (0, 2), (1, 2, 3), (3,)):
            self.refused(TWO_ISLES, part)
        self.refused(PAIR, (0,))
        self.refused(PAIR, (0, 1))
        self.refused(PAIR_FALLS, (0,))

    def test_all_other_parts(self):
        for web in all_webs():
            least = least_by_trying(web) if len(web[0]) < 6 else least_closed(web)
            for part in all_parts(web)[:60]:
                if part in least:
                    staying(web, part)
                else:
                    self.refused(web, part)

    def test_twice_out_of_order_or_of_other_places(self):
        for part in ((0, 0, 1), (0, 1, 1), (1, 0), (0, 1, 0), (-4, -3), (0, -3), (4, 5), (2, 3, 4), (), (10 ** 29,), (3, 2)):
            self.refused(TWO_ISLES, part)

    def test_truths(self):
        for part in ((True,), (False, True), (0, True), (False, 1)):
            self.refused(PAIR, part)
            self.refused(PAIR_FALLS, part)
            self.refused(TWO_ISLES, part)
        self.refused(LONE, (False,))
        self.refused(LONE, False)
        self.refused(LONE, 0)

    def test_other_kinds(self):
        for thing in ([0, 1], [2, 3], "01", "a+b", ("0", "1"), ("a", "b"), {0: 0, 1: 1}, ((0, 1),), [(0, 1)], (0, (1,)),
                      (0, [1]), (0, None), None, 0, 1, True, "", (0, 1, None)):
            self.refused(TWO_ISLES, thing)

    def test_of_anything(self):
        for thing in OF_ANY_KIND:
            if thing != (1,):
                self.refused(PAIR, thing)
            self.refused(TWO_ISLES, thing)
        self.told(PAIR, (1,), ((0, 1), 1))

    def test_asked_behind_another_web(self):
        first = staying(THREE_FALLS, (0, 1, 2))
        staying(THREE, least_closed(THREE)[0])
        self.refused(THREE, (0, 1, 2))
        self.told(THREE_FALLS, (0, 1, 2), first)


if __name__ == "__main__":
    unittest.main()
