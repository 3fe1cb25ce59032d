import unittest

from leapranks.webs import is_web
from tests.examples import (LONE, OF_ANY_KIND, PAIR, TEN, TEN_BARE, TEN_NAMES, THREE, THREE_FALLS,
                            all_webs, left_alone, with_part)

NAMES, TIES, LEAPS, CHANCE, FALLS = range(5)
MANY_TIES = tuple((a, b, 1) for a in range(10) for b in range(10))


class IsWebTest(unittest.TestCase):
    def told(self, thing, answer):
        with self.subTest(thing=thing):
            self.assertIs(left_alone(self, is_web, thing), answer)

    def with_each(self, web, at, parts, answer):
        for part in parts:
            self.told(with_part(web, at, part), answer)

    def test_webs(self):
        for web in all_webs():
            self.told(web, True)

    def test_names(self):
        self.with_each(PAIR, NAMES, (("a", "b"), ("abcdefgh", "z"), ("aa", "a"), ("zzzzzzzz", "zz")), True)
        self.with_each(PAIR, NAMES, (
            ("", "b"), ("abcdefghi", "b"), ("A", "b"), ("aB", "b"), ("a", "a"), ("a1", "b"),
            ("a b", "b"), ("a\n", "b"), ("_", "b"), ("a-", "b"), ("{", "b"), ("`", "b"),
            (1, "b"), (None, "b"), (True, "b"), (("a",), "b"), (["a"], "b"), ({}, "b"),
            ["a", "b"], "ab", None, {"a": 1, "b": 2}, ()), False)

    def test_number_of_places(self):
        self.told(LONE, True)
        self.told(TEN_BARE, True)
        eleven = (TEN_NAMES + ("k",), (), (1,) * 11, (1, 2), ())
        self.told(eleven, False)
        self.told(((), (), (), (1, 2), ()), False)

    def test_number_of_ties(self):
        self.with_each(TEN_BARE, TIES, ((), MANY_TIES[:1], MANY_TIES[:39], MANY_TIES[:40]), True)
        self.with_each(TEN_BARE, TIES, (MANY_TIES[:41], MANY_TIES), False)

    def test_ties_rise(self):
        self.with_each(PAIR, TIES, (((0, 0, 5), (0, 1, 1)), ((0, 1, 9), (1, 0, 2), (1, 1, 1))), True)
        self.with_each(PAIR, TIES, (
            ((0, 1, 1), (0, 0, 5)), ((1, 0, 2), (0, 1, 9)), ((0, 0, 1), (1, 1, 1), (1, 0, 1)),
            ((0, 1, 2), (0, 1, 2)), ((0, 1, 2), (0, 1, 3)), ((0, 1, 3), (0, 1, 2))), False)

    def test_ends_of_ties(self):
        self.with_each(THREE, TIES, (((0, 0, 1),), ((2, 2, 1),), ((0, 2, 1),)), True)
        self.with_each(THREE, TIES, (((3, 0, 1),), ((0, 3, 1),), ((-1, 0, 1),), ((0, -1, 1),)), False)

    def test_weights(self):
        self.with_each(PAIR, TIES, (((0, 1, 1),), ((0, 1, 30),)), True)
        self.with_each(PAIR, TIES, (((0, 1, 0),), ((0, 1, 31),), ((0, 1, -1),), ((0, 1, 10 ** 30),)), False)

    def test_forms_of_ties(self):
        self.with_each(PAIR, TIES, (
            [(0, 1, 2)], ([0, 1, 2],), ((0, 1),), ((0, 1, 2, 3),), ((False, 1, 2),), ((0, True, 2),),
            ((0, 1, True),), (("0", 1, 2),), ((0, 1, None),), (0, 1, 2), "", None, {}, 0, (None,),
            ("abc",), ((0, 1, 2), (1, "0", 2))), False)

    def test_leaps(self):
        self.with_each(PAIR, LEAPS, ((0, 1), (1, 0), (30, 30), (0, 30)), True)
        self.with_each(PAIR, LEAPS, (
            (0, 0), (31, 1), (1, 31), (-1, 2), (2, -1), (1,), (1, 1, 1), (), [1, 1], (True, 0), (1, False),
            ("1", 1), (None, 1), None, "11", 11, {0: 1, 1: 1}), False)

    def test_chance(self):
        self.with_each(PAIR, CHANCE, ((1, 1), (2, 4), (12, 12), (1, 12), (11, 12), (3, 3)), True)
        self.with_each(PAIR, CHANCE, (
            (0, 5), (5, 4), (1, 13), (13, 13), (-1, 4), (-4, -1), (1, 0), (0, 0), (1, -2), [1, 2],
            (1,), (1, 2, 3), (), (True, 2), (1, True), (True, True), ("1", 2), (1, None), None, 1, "12"), False)

    def test_falls(self):
        self.with_each(PAIR, FALLS, ((), (1, 0), (0, 30), (30, 30)), True)
        self.with_each(PAIR, FALLS, (
            (0, 0), (31, 1), (-1, 1), (1,), (1, 1, 1), [], [1, 1], (True, 1), (1, False), None, "", {}, 0,
            False, ("1", 1), ((), ())), False)

    def test_number_of_parts(self):
        for web in (THREE, THREE_FALLS, TEN):
            self.told(web[:4], False)
            self.told(web + ((),), False)
            self.told(list(web), False)
            self.told((web,), False)

    def test_of_anything(self):
        for thing in OF_ANY_KIND:
            self.told(thing, False)
        fitting = {NAMES: [("a", "b", "c")], TIES: [()], LEAPS: [(1, 2, 3)], CHANCE: [(1, 2)],
                   FALLS: [(), (1, 2, 3)]}
        for at in range(5):
            for thing in OF_ANY_KIND:
                self.told(with_part(THREE, at, thing), thing in fitting[at])


if __name__ == "__main__":
    unittest.main()
