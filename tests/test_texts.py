import unittest
from fractions import Fraction

from leapranks.ends import ends_of
from leapranks.lots import lot_by
from leapranks.rankings import ranking_of
from leapranks.shares import shares_of
from leapranks.splits import share_of
from leapranks.texts import show_fraction, show_lot, show_ranking, show_web
from tests.examples import (HUGE, LONE, LONE_LOOP, PAIR, PAIR_FALLS, TEN, TEN_BARE, TEN_FALL, THREE, THREE_FALLS,
                            TWO_ISLES, Numbers, all_webs, left_alone)
from tests.test_changes import FULL
from tests.test_ends import lots_of_all_kinds


def read_back(text):
    """The web of a text, by a plain reading that trusts it."""
    lines = [line.split(" ") for line in text.split("\n")]
    chance = tuple(int(word) for word in lines[0][1:])
    places = [line for line in lines if line[0] == "place"]
    names = tuple(line[1] for line in places)
    falls = lines[1 + len(places)]
    ties = tuple((names.index(line[1]), names.index(line[2]), int(line[3])) for line in lines[2 + len(places):])
    return (names, ties, tuple(int(line[2]) for line in places), chance, tuple(int(word) for word in falls[1:]))


class ShowWebTest(unittest.TestCase):
    def told(self, web, *lines):
        self.assertEqual(left_alone(self, show_web, web), "\n".join(lines))

    def test_by_hand(self):
        self.told(LONE, "chance 1 1", "place a 1", "stay")
        self.told(LONE_LOOP, "chance 1 12", "place lone 30", "stay", "tie lone lone 30")
        self.told(PAIR, "chance 1 2", "place left 1", "place right 0", "stay", "tie left right 2")
        self.told(PAIR_FALLS, "chance 1 2", "place left 1", "place right 0", "falls 3 1", "tie left right 2")
        self.told(THREE_FALLS, "chance 2 4", "place one 2", "place two 0", "place three 5", "falls 0 6 1",
                  "tie one one 1", "tie one two 2", "tie one three 4", "tie three one 3")
        self.told(TWO_ISLES, "chance 1 6", "place a 0", "place b 0", "place c 1", "place d 1", "stay", "tie a b 1",
                  "tie b a 1", "tie c d 5", "tie d c 7")

    def test_no_tie(self):
        text = left_alone(self, show_web, TEN_BARE)
        self.assertEqual(text.split("\n")[-1], "stay")
        self.assertEqual(text.count("\n"), 11)
        self.assertTrue(text.startswith("chance 2 11\nplace a 0\nplace b 0\n"))
        self.assertIn("\nplace abcdefgh 1\nstay", text)

    def test_ten_places_that_fall(self):
        lines = left_alone(self, show_web, TEN_FALL).split("\n")
        self.assertEqual(lines[11:], ["falls 1 2 3 4 5 6 7 8 9 10", "tie abcdefgh a 1"])

    def test_forty_ties(self):
        for web in (FULL, TEN):
            lines = left_alone(self, show_web, web).split("\n")
            self.assertEqual(len(lines), 12 + len(web[1]))
        self.assertEqual(len(FULL[1]), 40)
        self.assertEqual(show_web(FULL).split("\n")[-1], "tie abcdefgh d 10")

    def test_read_back(self):
        for web in all_webs():
            text = left_alone(self, show_web, web)
            self.assertEqual(read_back(text), web)
            self.assertIs(type(text), str)
            for line in text.split("\n"):
                self.assertRegex(line, r"^(chance( \d+){2}|place [a-z]+ \d+|stay|falls( \d+)+|tie( [a-z]+){2} \d+)$")
                self.assertNotRegex(line, r" 0\d")


class ShowLotTest(unittest.TestCase):
    def told(self, lot, text):
        self.assertEqual(left_alone(self, show_lot, lot), text)

    def test_by_hand(self):
        self.told((1, (0,), (1,)), "lot 1: 0: 1")
        self.told((4, (1, 2), (0, 0)), "lot 4: 1,2: 0,0")
        self.told((22, (7, 2, 0), (0, 10, 100)), "lot 22: 7,2,0: 0,10,100")

    def test_below_0(self):
        self.told((4, (-1, 5), (8, -7)), "lot 4: -1,5: 8,-7")
        self.told((4, (-10, 0), (-100, -1)), "lot 4: -10,0: -100,-1")

    def test_two_hundred_figures(self):
        sevens = "7" * 200
        self.told((HUGE, (HUGE, -HUGE), (0, -HUGE)), f"lot {sevens}: {sevens},-{sevens}: 0,-{sevens}")
        great = "1" + "0" * 199
        self.told((10 ** 199, (-10 ** 199,), (10 ** 199 + 1,)), f"lot {great}: -{great}: 1{'0' * 198}1")

    def test_one_that_does_not_fit(self):
        self.told((1, (1, 1), (1, 1)), "lot 1: 1,1: 1,1")

    def test_ten_places(self):
        self.told((5, tuple(range(10)), tuple(range(0, -10, -1))),
                  "lot 5: 0,1,2,3,4,5,6,7,8,9: 0,-1,-2,-3,-4,-5,-6,-7,-8,-9")

    def test_as_python_writes(self):
        for web, lot in lots_of_all_kinds(90):
            grains, goings, rest = lot
            self.told(lot, f"lot {grains}: {','.join(map(str, goings))}: {','.join(map(str, rest))}")


class ShowFractionTest(unittest.TestCase):
    def told(self, one, text):
        self.assertEqual(left_alone(self, show_fraction, one), text)

    def test_by_hand(self):
        for one, text in (((0, 1), "0/1"), ((1, 1), "1/1"), ((1, 2), "1/2"), ((-1, 2), "-1/2"), ((-10, 3), "-10/3"),
                          ((100, 101), "100/101"), ((HUGE, 1), "7" * 200 + "/1"),
                          ((-1, HUGE), "-1/" + "7" * 200)):
            self.told(one, text)

    def test_of_shares_and_ends(self):
        numbers = Numbers(91)
        for web in all_webs():
            lot = lot_by(web, 5, tuple(numbers.between(-HUGE, HUGE) for place in web[0]))
            for a in range(len(web[0])):
                for one in (share_of(shares_of(web), a), *ends_of(web, lot, a)):
                    text = left_alone(self, show_fraction, one)
                    self.assertEqual(text, f"{one[0]}/{one[1]}")
                    self.assertEqual(Fraction(text), Fraction(*one))

    def test_noughts_within(self):
        for figures in (1, 59, 60, 61, 119, 120, 121, 180, 199):
            for more in (-1, 0, 1, 10 ** 20):
                number = 10 ** figures + more
                self.told((number, 1), str(number) + "/1")
                self.told((-number, 1), "-" + str(number) + "/1")

    def test_of_any_size(self):
        # What was told may be handed in again, whatever its size: also numbers that Python doesn't write.
        self.assertEqual(show_fraction((10 ** 5000 + 1, 10 ** 4999)), "1" + "0" * 4999 + "1/1" + "0" * 4999)
        self.assertEqual(show_fraction((1 - 10 ** 5000, 7)), "-" + "9" * 5000 + "/7")
        self.assertEqual(show_lot((1, (10 ** 5000,), (-10 ** 5000,))), f"lot 1: 1{'0' * 5000}: -1{'0' * 5000}")


class ShowRankingTest(unittest.TestCase):
    def told(self, web, ranking, text):
        self.assertEqual(left_alone(self, show_ranking, web, ranking), text)

    def test_by_hand(self):
        self.told(LONE, (0,), "a")
        self.told(PAIR, (0, 1), "left > right")
        self.told(PAIR, (1, 0), "right > left")
        self.told(THREE, (2, 0, 1), "three > one > two")
        self.told(TEN, tuple(range(10)), "a > b > c > d > e > f > g > h > i > abcdefgh")
        self.told(TEN_BARE, ranking_of(shares_of(TEN_BARE)), "abcdefgh > a > b > c > d > e > f > g > h > i")

    def test_of_all_webs(self):
        for web in all_webs():
            ranking = ranking_of(shares_of(web))
            self.told(web, ranking, " > ".join(web[0][a] for a in ranking))


if __name__ == "__main__":
    unittest.main()
