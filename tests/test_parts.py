import itertools
import time
import unittest

from leapranks.parts import is_closed, least_closed
from tests.examples import (ALWAYS, LONE, LONE_LOOP, PAIR, PAIR_FALLS, TEN, TEN_BARE, TEN_FALL, TEN_NAMES, THREE,
                            THREE_FALLS, TWO_ISLES, all_webs, left_alone, some_webs)
from tests.walks import chances_from

RING = (TEN_NAMES, tuple((a, a + 1, 1) for a in range(9)) + ((9, 0, 3),), (1,) * 10, (1, 2), ())


def all_parts(web):
    places = range(len(web[0]))
    return [part for many in range(1, len(web[0]) + 1) for part in itertools.combinations(places, many)]


def closed_by_the_point(web, part):
    return all(chances_from(web, a)[b] == 0 for a in part for b in range(len(web[0])) if b not in part)


def least_by_trying(web):
    closed = [part for part in all_parts(web) if closed_by_the_point(web, part)]
    return sorted(part for part in closed if not any(set(other) < set(part) for other in closed))


class IsClosedTest(unittest.TestCase):
    def told(self, web, part, answer):
        with self.subTest(web=web, part=part):
            self.assertIs(left_alone(self, is_closed, web, part), answer)

    def test_by_hand(self):
        self.told(PAIR, (0,), False)
        self.told(PAIR, (1,), True)
        self.told(PAIR, (0, 1), True)
        self.told(PAIR_FALLS, (1,), False)
        self.told(PAIR_FALLS, (0, 1), True)
        self.told(LONE, (0,), True)
        self.told(LONE_LOOP, (0,), True)
        self.told(TWO_ISLES, (0, 1), True)
        self.told(TWO_ISLES, (2, 3), True)
        self.told(TWO_ISLES, (1, 2), False)
        self.told(TWO_ISLES, (0, 1, 2), False)
        self.told(TWO_ISLES, (0, 1, 2, 3), True)

    def test_falls_of_0_do_not_lead_out(self):
        # The falls are (0, 6, 1): from two they lead to two and three, not to one.
        self.told(THREE_FALLS, (1, 2), False)
        falling = (("one", "two", "three"), ((0, 1, 1),), (1, 1, 1), (1, 2), (0, 6, 1))
        self.told(falling, (1, 2), True)
        self.told(falling, (1,), False)

    def test_always_leaping(self):
        self.told(ALWAYS, (1,), False)
        self.told(ALWAYS, (0, 1, 2), True)

    def test_as_the_point_tells(self):
        for web in all_webs():
            if len(web[0]) <= 6:
                for part in all_parts(web):
                    self.told(web, part, closed_by_the_point(web, part))
        for part in all_parts(TEN_BARE):
            self.assertIs(is_closed(TEN_BARE, part), True)


class LeastClosedTest(unittest.TestCase):
    def told(self, web, parts):
        self.assertEqual(left_alone(self, least_closed, web), parts)

    def test_by_hand(self):
        self.told(PAIR, [(1,)])
        self.told(PAIR_FALLS, [(0, 1)])
        self.told(LONE, [(0,)])
        self.told(LONE_LOOP, [(0,)])
        self.told(THREE, [(1,)])
        self.told(THREE_FALLS, [(0, 1, 2)])
        self.told(ALWAYS, [(0, 1, 2)])
        self.told(TWO_ISLES, [(0, 1), (2, 3)])
        self.told(TEN_FALL, [tuple(range(10))])
        self.told(RING, [tuple(range(10))])

    def test_rising(self):
        self.told((("a", "b", "c", "d", "e"), ((1, 4, 1), (3, 0, 2), (4, 1, 3)), (1,) * 5, (1, 2), ()),
                  [(0,), (1, 4), (2,)])

    def test_a_place_that_leads_to_two_of_them(self):
        self.told((("a", "b", "c"), ((1, 0, 1), (1, 2, 1)), (1,) * 3, (1, 2), ()), [(0,), (2,)])

    def test_ten_places_without_a_tie(self):
        start = time.monotonic()
        self.told(TEN_BARE, [(a,) for a in range(10)])
        self.assertLess(time.monotonic() - start, 1)

    def test_as_the_point_tells(self):
        for web in all_webs() + some_webs(39, 60):
            self.told(web, least_by_trying(web))

    def test_with_few_ties(self):
        for web in some_webs(40, 60):
            names, ties, leaps, chance, falls = web
            self.told((names, ties[::4], leaps, chance, ()), least_by_trying((names, ties[::4], leaps, chance, ())))
            self.told((names, ties[::3], leaps, chance, falls),
                      least_by_trying((names, ties[::3], leaps, chance, falls)))

    def test_no_two_share_a_place(self):
        for web in some_webs(41, 60):
            places = [a for part in least_closed(web) for a in part]
            self.assertEqual(len(places), len(set(places)))
            self.assertTrue(all(is_closed(web, part) for part in least_closed(web)))

    def test_the_told_list_is_the_askers_own(self):
        first = least_closed(TWO_ISLES)
        first.append((9,))
        first[0] = None
        self.assertEqual(least_closed(TEN), least_by_trying(TEN))
        self.assertEqual(least_closed(TWO_ISLES), [(0, 1), (2, 3)])


if __name__ == "__main__":
    unittest.main()
