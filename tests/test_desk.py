import unittest
from fractions import Fraction

from leapranks.changes import changed
from leapranks.desk import Desk
from leapranks.errors import NoBack, NoChange, NoName, NoNumber, NoPush, NoRow, NoText
from leapranks.keeper import Keeper
from leapranks.parts import least_closed
from leapranks.pushes import can_push
from leapranks.rankings import ranking_of
from leapranks.shares import shares_of
from leapranks.texts import show_lot, show_ranking, show_web
from tests.examples import (ALWAYS, LONE, OF_ANY_KIND, PAIR, PAIR_FALLS, TEN, TEN_BARE, THREE, THREE_FALLS, TWO_ISLES,
                            Numbers, all_webs, some_leaps)
from tests.test_changes import FULL
from tests.test_lifts import some_changes
from tests.test_reader import NO_NUMBERS
from tests.walks import shares_by_elimination

ASKED = ("web", "lot", "ranking", "parts")
NO_ROWS = (
    "", " ", "  ", "\n", "none", "tye left right 1", "Tie left right 1", "TIE left right 1", "tie", "tie left", "tie left right",
    "tie left right 1 2", "tie  left right 1", "tie left  right 1", "tie left right  1", "tie left right 1 ", " tie left right 1",
    "leaps", "leaps 1", "leaps 1 2 3", "leaps  1 2", "leaps 1 2 ", "leap 1 2", "push", "push left",
    "push left 1 1", "push left  1", " push left 1", "settle ", " settle", "settle 1", "settle left", "settle\n", "\nsettle",
    "Settle", "back ", "back 1", "backs", "web ", "web 1", "web;", "lot ", "lot 1", "lots", "ends", "ends left right",
    "ends  left", "ends left ", "share", "share left right", "shares", "share  left", "ranking ", "ranking left", "rankings",
    "ahead", "ahead left", "ahead left right left", "ahead  left right", "behind", "behind left right left", "behind left right 1",
    "behind left right left 1 1", "parts ", "parts left", "part", "stay", "chance 1 2", "place left 1", "settle;back",
    "settle\nback", "left", "tie,left,right,1", "tie\nleft right 1", "push\nleft 1", "1", "~", " " * 4000, "a " * 2000)


def text_of(one):
    return f"{one.numerator}/{one.denominator}"


def all_said(desk, names):
    """All that a desk answers without a deed."""
    rows = list(ASKED) + [f"{word} {name}" for word in ("ends", "share") for name in names]
    return [desk.say(row) for row in rows + [f"ahead {a} {b}" for a in names for b in names]]


class MadeTest(unittest.TestCase):
    def test_begun(self):
        for web in all_webs():
            for grains in (1, 7, 1000000):
                desk = Desk(show_web(web), grains)
                self.assertEqual(desk.say("web"), show_web(web).replace("\n", "; "))
                self.assertEqual(desk.say("lot"), show_lot(Keeper(web, grains).lot()))

    def refused(self, kind, text, grains):
        before = repr((text, grains))
        with self.subTest(text=text, grains=grains), self.assertRaises(kind) as caught:
            Desk(text, grains)
        self.assertEqual(repr((text, grains)), before)
        return caught.exception

    def test_no_text(self):
        for thing in OF_ANY_KIND:
            self.assertEqual(self.refused(NoText, thing, 5).line, 0)
        self.assertEqual(self.refused(NoText, "chance 1 2\nplace a 0\nstay", 5).line, 2)
        self.assertEqual(self.refused(NoText, show_web(PAIR) + "\n", 5).line, 5)
        self.refused(NoText, show_web(PAIR).replace("\n", "; "), 5)
        self.refused(NoText, PAIR, 5)

    def test_no_number(self):
        for grains in OF_ANY_KIND + (1000001, -1, 10 ** 29, "1", "5", [5], (5,), {5: 5}):
            if grains not in (1, 7) or grains is True:
                self.refused(NoNumber, show_web(PAIR), grains)

    def test_no_text_goes_ahead_of_no_number(self):
        for grains in (0, None, True, "1", 1000001):
            self.refused(NoText, "chance 1 2", grains)
            self.refused(NoText, None, grains)


class SayTest(unittest.TestCase):
    def led(self, desk, *rows):
        """Rows and their answers by turns."""
        for row, answer in zip(rows[::2], rows[1::2]):
            told = desk.say(row)
            self.assertEqual((row, told), (row, answer))
            self.assertIs(type(told), str)

    def test_led_through_all_rows(self):
        self.led(
            Desk(show_web(PAIR), 100),
            "web", "chance 1 2; place left 1; place right 0; stay; tie left right 2",
            "lot", "lot 100: 0,0: 100,0",
            "push left 5", "left right",
            "lot", "lot 100: 5,0: 80,10",
            "ends left", "1/10 1/1",
            "ends right", "0/1 9/10",
            "share left", "1/2",
            "ranking", "left > right",
            "ahead left right", "no",
            "settle", "left right",
            "lot", "lot 100: 25,50: 0,0",
            "settle", "none",
            "tie left right 3", "left right",
            "web", "chance 1 2; place left 1; place right 0; stay; tie left right 3",
            "lot", "lot 100: 25,50: -50,25",
            "leaps 1 2", "right",
            "lot", "lot 100: 25,50: -50,225",
            "push left -8", "left right",
            "lot", "lot 100: 17,50: -2,201",
            "settle", "right",
            "lot", "lot 100: 17,251: -2,0",
            "ends right", "83/100 251/300",
            "share right", "5/6",
            "ranking", "right > left",
            "ahead right left", "yes",
            "ahead left right", "no",
            "ahead left left", "no",
            "behind left right left 5", "4/9",
            "behind right left right 0", "2/3",
            "parts", "right",
            "tie right left 1", "left right",
            "parts", "left+right",
            "back", "left right",
            "back", "right",
            "back", "left right",
            "back", "right",
            "back", "left right",
            "back", "none",
            "back", "left right",
            "back", "left right",
            "lot", "lot 100: 0,0: 100,0",
            "web", "chance 1 2; place left 1; place right 0; stay; tie left right 2",
        )

    def test_three_places(self):
        self.led(
            Desk(show_web(THREE_FALLS), 1000),
            "web", "chance 2 4; place one 2; place two 0; place three 5; falls 0 6 1; tie one one 1; tie one two 2; "
                   "tie one three 4; tie three one 3",
            "leaps 2 0 6", "three",
            "leaps 3 1 6", "one two",
            "leaps 3 1 6", "none",
            "back", "none",
            "tie two two 4", "none",
            "parts", "two",
            "tie one two 0", "none",
            "parts", "one+three two",
        )

    def test_parts_in_their_order(self):
        self.led(Desk(show_web(TWO_ISLES), 5), "parts", "a+b c+d")
        self.led(Desk(show_web(TEN_BARE), 5), "parts", "a b c d e f g h i abcdefgh")
        self.led(Desk(show_web(LONE), 5), "parts", "a")

    def test_names_that_are_words_of_rows(self):
        web = (("tie", "none", "leaps", "settle", "web", "back", "push", "ends", "lot", "share"), ((0, 1, 3), (3, 0, 1)),
               (1, 0, 0, 2, 0, 0, 0, 0, 0, 0), (1, 2), ())
        desk = Desk(show_web(web), 1000)
        self.led(
            desk,
            "tie settle tie 7", "none",
            "push settle 1", "tie settle",
            "push tie 1", "tie none",
            "share tie", "1/3",
            "behind none tie none 0", "0/1",
            "ahead settle none", "no",
            "leaps 1 0 0 2 0 0 0 0 0 5", "share",
            "back", "share",
            "back", "tie none",
            "ends lot", "0/1 2993/3000",
            "parts", "none leaps web back push ends lot share",
            "ranking", "tie > none > settle > leaps > web > back > push > ends > lot > share",
        )

    def test_as_a_keeper_led_so(self):
        numbers = Numbers(150)
        for web in all_webs():
            grains = numbers.between(1, 1000000)
            desk, keeper = Desk(show_web(web), grains), Keeper(web, grains)
            for turn in range(12):
                row, told = self.some_deed(numbers, keeper)
                self.led(desk, row, " ".join(web[0][a] for a in told) or "none")
                self.asked(numbers, desk, keeper)

    def some_deed(self, numbers, keeper):
        """A row, and what a keeper tells that did the same."""
        web, lot = keeper.web(), keeper.lot()
        kind = numbers.below(5)
        if kind == 0:
            a, b, weight = some_changes(numbers, web, 1)[0]
            return f"tie {web[0][a]} {web[0][b]} {weight}", keeper.tie((a, b, weight))
        if kind == 1:
            leaps = some_leaps(numbers, len(web[0]))
            return "leaps " + " ".join(map(str, leaps)), keeper.leap(leaps)
        if kind == 2 and can_push(web, lot):
            a = can_push(web, lot)[-1]
            many = -1 if lot[2][a] < 0 else 1
            return f"push {web[0][a]} {many}", keeper.push(a, many)
        if kind == 3:
            try:
                return "back", keeper.back()
            except NoBack:
                return "settle", keeper.settle()
        return "settle", keeper.settle()

    def asked(self, numbers, desk, keeper):
        web, lot = keeper.web(), keeper.lot()
        names, many = web[0], len(web[0])
        a, b, k = (numbers.below(many) for turn in range(3))
        change = some_changes(numbers, web, 1)[0]
        shares = shares_by_elimination(web)
        self.led(
            desk,
            "web", show_web(web).replace("\n", "; "),
            "lot", show_lot(lot),
            f"ends {names[a]}", " ".join(text_of(Fraction(*end)) for end in keeper.ends(a)),
            f"share {names[a]}", text_of(shares[a]),
            "ranking", show_ranking(web, ranking_of(shares_of(web))),
            f"ahead {names[a]} {names[b]}", "yes" if (a, b) in keeper.ahead() else "no",
            f"behind {names[k]} {names[change[0]]} {names[change[1]]} {change[2]}",
            text_of(shares_by_elimination(changed(web, change))[k]),
            "parts", " ".join("+".join(names[a] for a in part) for part in least_closed(web)),
        )

    def test_the_share_is_not_the_told_one(self):
        desk = Desk(show_web(PAIR_FALLS), 10)
        self.led(desk, "share left", "7/11", "settle", "left right", "share left", "7/11", "ends left", "2/5 1/1")

    def test_behind_is_a_question(self):
        desk = Desk(show_web(THREE), 100)
        desk.say("settle")
        before = all_said(desk, THREE[0])
        desk.say("behind one two three 5")
        desk.say("behind one three one 0")
        self.assertEqual(all_said(desk, THREE[0]), before)
        self.led(desk, "back", "one three")
        with self.assertRaises(NoBack):
            desk.say("back")

    def test_asking_is_no_deed(self):
        desk = Desk(show_web(TEN), 1000)
        self.assertEqual(all_said(desk, TEN[0]), all_said(desk, TEN[0]))
        with self.assertRaises(NoBack):
            desk.say("back")

    def test_two_desks_of_one_text(self):
        text = show_web(THREE_FALLS)
        one, other = Desk(text, 500), Desk(text, 500)
        begin = all_said(other, THREE_FALLS[0])
        for row in ("settle", "tie two one 3", "leaps 1 2 3"):
            one.say(row)
        self.assertEqual(all_said(other, THREE_FALLS[0]), begin)
        with self.assertRaises(NoBack):
            other.say("back")
        led = all_said(one, THREE_FALLS[0])
        other.say("tie one one 0")
        other.say("settle")
        self.assertEqual(all_said(one, THREE_FALLS[0]), led)
        self.assertEqual(all_said(Desk(text, 500), THREE_FALLS[0]), begin)

    def test_always_leaping(self):
        self.led(Desk(show_web(ALWAYS), 7), "settle", "three", "share one", "2/7", "share two", "0/1",
                 "ranking", "three > one > two", "behind three one one 30", "5/7")


class RefusedTest(unittest.TestCase):
    def setUp(self):
        self.desk = Desk(show_web(PAIR), 100)
        self.desk.say("push left 5")
        self.before = all_said(self.desk, PAIR[0])

    def tearDown(self):
        # What was refused was no deed: one taking back leads to the begin.
        self.assertEqual(self.desk.say("back"), "left right")
        self.assertEqual(self.desk.say("lot"), "lot 100: 0,0: 100,0")
        with self.assertRaises(NoBack):
            self.desk.say("back")

    def refused(self, kind, row):
        shown = repr(row)
        with self.subTest(row=row), self.assertRaises(kind):
            self.desk.say(row)
        self.assertEqual(all_said(self.desk, PAIR[0]), self.before)
        self.assertEqual(repr(row), shown)

    def test_no_row(self):
        for row in NO_ROWS:
            self.refused(NoRow, row)

    def test_no_text(self):
        for thing in OF_ANY_KIND + (["settle"], ("settle",), {"settle": 1}):
            self.refused(NoRow, thing)

    def test_no_row_goes_ahead_of_no_name(self):
        for row in ("tie wrong wrong", "push wrong 1 1", "ends wrong wrong", "leaps 01 01 01", "behind wrong 1"):
            self.refused(NoRow, row)

    def test_no_name(self):
        for name in ("wrong", "Left", "", "lef", "leftt", "0", "1", "-1", "left\n", "\nleft", "left+right", "none", "~"):
            for row in (f"tie {name} right 1", f"tie left {name} 1", f"push {name} 1", f"ends {name}", f"share {name}",
                        f"ahead {name} left", f"ahead left {name}", f"behind {name} left right 1",
                        f"behind left {name} right 1", f"behind left right {name} 1"):
                self.refused(NoName, row)

    def test_no_name_goes_ahead_of_what_stands_behind_it(self):
        for row in ("tie wrong right x", "tie left wrong 031", "push wrong x", "push wrong 0", "behind left left wrong -0",
                    "behind wrong wrong wrong +1", "tie wrong right 31", "behind wrong left right 31"):
            self.refused(NoName, row)

    def test_no_number(self):
        for word in NO_NUMBERS + ("1" * 31, "-" + "1" * 31, "left"):
            if " " not in word:
                for row in (f"tie left right {word}", f"push left {word}", f"leaps {word} 1", f"leaps 1 {word}",
                            f"behind left left right {word}"):
                    self.refused(NoNumber, row)

    def test_no_number_goes_ahead_of_the_stages(self):
        for row in ("leaps 31 x", "leaps x 31", "leaps 0 -0", "leaps -1 +1"):
            self.refused(NoNumber, row)

    def test_no_change(self):
        for number in ("31", "-1", "100", "9" * 30, "-" + "9" * 30):
            for row in (f"tie left right {number}", f"behind left left right {number}", f"leaps {number} 1",
                        f"leaps 1 {number}"):
                self.refused(NoChange, row)
        self.refused(NoChange, "leaps 0 0")

    def test_no_push(self):
        for row in ("push left 0", "push left -1", "push left 21", "push right 0", "push right 11", "push right -1",
                    "push left " + "9" * 30, "push left -" + "9" * 30):
            self.refused(NoPush, row)

    def test_no_back(self):
        desk = Desk(show_web(PAIR), 100)
        for turn in range(2):
            with self.assertRaises(NoBack):
                desk.say("back")
        self.assertEqual(all_said(desk, PAIR[0]), all_said(Desk(show_web(PAIR), 100), PAIR[0]))

    def test_a_forty_first_tie(self):
        desk = Desk(show_web(FULL), 5)
        for row in ("tie a i 1", "behind a a i 1"):
            with self.assertRaises(NoChange):
                desk.say(row)
        self.assertEqual(desk.say("web"), show_web(FULL).replace("\n", "; "))
        desk.say("tie a a 0")
        desk.say("tie a i 1")
        with self.assertRaises(NoChange):
            desk.say("tie a a 1")


if __name__ == "__main__":
    unittest.main()
