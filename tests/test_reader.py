import unittest
from fractions import Fraction

from leapranks.errors import NoText
from leapranks.exact import exact_lot
from leapranks.rankings import ranking_of
from leapranks.reader import read_fraction, read_lot, read_ranking, read_web
from leapranks.shares import shares_of
from leapranks.splits import share_of
from leapranks.texts import show_fraction, show_lot, show_ranking, show_web
from leapranks.webs import is_web
from tests.examples import (ALWAYS, HUGE, LONE, OF_ANY_KIND, PAIR, PAIR_FALLS, TEN, TEN_BARE, TEN_FALL, TEN_NAMES, THREE,
                            THREE_FALLS, Numbers, all_webs, left_alone, with_part)
from tests.test_changes import FULL
from tests.test_ends import lots_of_all_kinds
from tests.test_texts import read_back
from tests.test_turned import some_order

NO_TEXTS = tuple(thing for thing in OF_ANY_KIND if not isinstance(thing, str)) + (["chance 1 2"], ("stay",), {"a": "b"})
NO_NUMBERS = ("", " ", "-", "+", "--1", "-0", "+0", "+1", "00", "01", "007", "-01", "-00", "1.", "1.0", "1e3", "0x1", "1_0",
              "1,", "a", "one", "1 ", " 1", "1-", "1\n", "\n1", "~", "1" * 201, "-" + "1" * 201, "0" * 201, "1" * 3000)
GOOD = ["chance 2 4", "place one 2", "place two 0", "place three 5", "falls 0 6 1", "tie one one 1", "tie one two 2",
        "tie one three 4", "tie three one 3"]


def with_line(at, *lines):
    """The good text with other lines instead of the one numbered at."""
    return "\n".join(GOOD[:at] + list(lines) + GOOD[at + 1:])


def is_text_of_a_web(text):
    """Whether a text is what is written of some web."""
    try:
        web = read_back(text)
        return is_web(web) and show_web(web) == text
    except (ValueError, IndexError):
        return False


def can_begin(lines):
    """Whether some text of a web begins with these lines: the shortest ends there can be are tried."""
    return any(is_text_of_a_web("\n".join(lines + end)) for end in ([], ["stay"], ["place zz 1", "stay"]))


def first_wrong_line(text):
    """The number of the first line that can't stand there; where lines lack, how many there are."""
    lines = text.split("\n")
    for many in range(1, len(lines) + 1):
        if not can_begin(lines[:many]):
            return many - 1
    return len(lines)


class Reading(unittest.TestCase):
    def refused(self, line, call, *handed):
        before = repr(handed)
        with self.subTest(handed=handed):
            for turn in range(2):
                with self.assertRaises(NoText) as caught:
                    call(*handed)
                self.assertEqual(caught.exception.line, line)
                self.assertIs(type(caught.exception.line), int)
        self.assertEqual(repr(handed), before)


class ReadWebTest(Reading):
    def told(self, text, web):
        self.assertEqual(left_alone(self, read_web, text), web)
        self.assertIs(is_web(read_web(text)), True)

    def no_web(self, line, text):
        self.refused(line, read_web, text)

    def test_by_hand(self):
        self.told("chance 1 1\nplace a 1\nstay", LONE)
        self.told("chance 1 2\nplace left 1\nplace right 0\nstay\ntie left right 2", PAIR)
        self.told("chance 1 2\nplace left 1\nplace right 0\nfalls 3 1\ntie left right 2", PAIR_FALLS)
        self.told("\n".join(GOOD), THREE_FALLS)

    def test_what_is_written_is_read_back(self):
        for web in all_webs() + [FULL]:
            self.told(show_web(web), web)

    def test_no_tie_and_forty(self):
        self.assertEqual((len(TEN_BARE[1]), len(FULL[1])), (0, 40))
        self.told(show_web(TEN_BARE), TEN_BARE)
        self.told(show_web(FULL), FULL)

    def test_chances(self):
        for p in range(1, 13):
            for q in range(p, 13):
                self.told(with_line(0, f"chance {p} {q}"), with_part(THREE_FALLS, 3, (p, q)))
        for line in ("chance 0 1", "chance 0 0", "chance 3 2", "chance 13 12", "chance 1 13", "chance 13 13", "chance -1 2",
                     "chance 1 -2", "chance 1", "chance", "chance 1 2 3", "chance 1  2", "chance  1 2", " chance 1 2",
                     "chance 1 2 ", "Chance 1 2", "chance 1/2", "chance a b", "chances 1 2", "", "stay", "place a 1",
                     "tie one one 1", "falls 0 6 1", "chance 01 2", "chance 1 02", "chance +1 2", "chance 1 2\n"):
            self.no_web(0 if line != "chance 1 2\n" else 1, with_line(0, line))

    def test_numbers(self):
        for word in NO_NUMBERS:
            for at, line in ((0, "chance {} 12"), (0, "chance 1 {}"), (1, "place one {}"), (4, "falls {} 6 1"),
                             (4, "falls 0 6 {}"), (5, "tie one one {}")):
                spoilt = with_line(at, line.format(word))
                self.no_web(first_wrong_line(spoilt), spoilt)
                if "\n" not in word:
                    self.assertEqual(first_wrong_line(spoilt), at)

    def test_names(self):
        for name in ("", "One", "o1", "a-b", "abcdefghi", "o ne", "~", "a\nb", "1", "-"):
            self.no_web(1, with_line(1, f"place {name} 2"))
        self.no_web(2, with_line(2, "place one 0"))
        self.no_web(3, with_line(3, "place one 5"))
        self.no_web(3, with_line(3, "place two 5"))
        self.told(with_line(2, "place abcdefgh 0").replace(" two ", " abcdefgh "),
                  with_part(THREE_FALLS, 0, ("one", "abcdefgh", "three")))
        self.no_web(2, with_line(2, "place abcdefghi 0").replace(" two ", " abcdefghi "))

    def test_names_that_are_words_of_lines(self):
        web = (("chance", "place", "stay", "falls", "tie"), ((4, 3, 1),), (1, 0, 0, 0, 0), (1, 2), ())
        self.told(show_web(web), web)
        self.told("chance 1 2\nplace stay 1\nstay\ntie stay stay 3", (("stay",), ((0, 0, 3),), (1,), (1, 2), ()))

    def test_leaps(self):
        for leaps in (0, 1, 30):
            self.told(with_line(1, f"place one {leaps}"), with_part(THREE_FALLS, 2, (leaps, 0, 5)))
        for leaps in (31, -1, 100, HUGE, -HUGE):
            self.no_web(1, with_line(1, f"place one {leaps}"))
        for line in ("place one", "place", "place one 2 3", "place one  2", "place  one 2", "place one 2 ", " place one 2",
                     "Place one 2", "place 2 one"):
            self.no_web(1, with_line(1, line))

    def test_all_leaps_0(self):
        self.no_web(2, "chance 1 2\nplace a 0\nstay")
        self.no_web(2, "chance 1 2\nplace a 0\nfalls 1")
        self.no_web(2, "chance 1 2\nplace a 0\ntie a a 1")
        self.no_web(2, "chance 1 2\nplace a 0")
        self.told("chance 1 2\nplace a 0\nplace b 1\nstay", (("a", "b"), (), (0, 1), (1, 2), ()))
        nine = ["chance 1 2"] + [f"place {name} 0" for name in TEN_NAMES[:9]]
        self.no_web(10, "\n".join(nine))
        self.no_web(10, "\n".join(nine + ["stay"]))
        self.no_web(10, "\n".join(nine + ["place abcdefgh 0"]))
        self.no_web(10, "\n".join(nine + ["place abcdefgh 0", "stay"]))
        self.told("\n".join(nine + ["place abcdefgh 1", "stay"]), with_part(TEN_BARE, 3, (1, 2)))

    def test_too_many_places(self):
        ten = show_web(TEN_FALL).split("\n")
        for line in ("place k 1", "place k 0", "place a 1"):
            self.no_web(11, "\n".join(ten[:11] + [line] + ten[11:]))
            self.no_web(11, "\n".join(ten[:11] + [line]))

    def test_no_place(self):
        self.no_web(1, "chance 1 2\nstay")
        self.no_web(1, "chance 1 2\nfalls")
        self.no_web(1, "chance 1 2\nfalls 1")
        self.no_web(1, "chance 1 2\ntie a a 1")
        self.no_web(1, "chance 1 2\nchance 1 2")

    def test_falls(self):
        for falls in ((1, 0, 0), (0, 0, 30), (30, 30, 30)):
            self.told(with_line(4, "falls {} {} {}".format(*falls)), with_part(THREE_FALLS, 4, falls))
        self.told(with_line(4, "stay"), with_part(THREE_FALLS, 4, ()))
        for line in ("falls", "falls ", "falls 1", "falls 1 2", "falls 1 2 3 4", "falls 0 0 0", "falls 31 0 0", "falls 0 0 -1",
                     "falls 0  6 1", "falls 0,6,1", "falls 0 6 1 ", " falls 0 6 1", "falls () 6 1", "fall 0 6 1", "stay 1",
                     "stay ", " stay", "Stay", "stays", "", "stay 0 6 1", "falls 0 6 a", "chance 1 2", "tie one one 1"):
            self.no_web(4, with_line(4, line))

    def test_falls_twice(self):
        for line in ("stay", "falls 0 6 1"):
            self.no_web(5, with_line(4, line, "stay"))
            self.no_web(5, with_line(4, line, "falls 0 6 1"))
            self.no_web(5, with_line(4, line, "place four 1"))

    def test_ties(self):
        for weight in (1, 30):
            self.told(with_line(5, f"tie one one {weight}"),
                      with_part(THREE_FALLS, 1, ((0, 0, weight),) + THREE_FALLS[1][1:]))
        for line in ("tie one one 0", "tie one one 31", "tie one one -1", f"tie one one {HUGE}", "tie one four 1",
                     "tie four one 1", "tie 0 0 1", "tie one one", "tie one 1", "tie", "tie one one 1 1", "tie  one one 1",
                     "tie one  one 1", "tie one one  1", "tie one one 1 ", " tie one one 1", "Tie one one 1", "tie one one x",
                     "one one 1", "", "place four 1", "stay"):
            self.no_web(5, with_line(5, line))
            self.no_web(9, "\n".join(GOOD + [line]))

    def test_ties_that_do_not_rise(self):
        self.no_web(6, with_line(6, "tie one one 2"))
        self.no_web(6, with_line(6, "tie one one 1"))
        self.no_web(7, with_line(7, "tie one two 3"))
        self.no_web(7, with_line(7, "tie one one 4"))
        self.no_web(9, "\n".join(GOOD + ["tie one one 30"]))
        self.no_web(9, "\n".join(GOOD + ["tie two three 30"]))
        self.told("\n".join(GOOD + ["tie three two 3"]), with_part(THREE_FALLS, 1, THREE_FALLS[1] + ((2, 1, 3),)))

    def test_a_forty_first_tie(self):
        forty = show_web(FULL)
        self.told(forty, FULL)
        self.no_web(52, forty + "\ntie abcdefgh e 1")
        self.no_web(52, forty + "\ntie abcdefgh e 1\ntie abcdefgh f 1")

    def test_lines_that_lack(self):
        for many in range(1, 5):
            self.no_web(many, "\n".join(GOOD[:many]))
        for many in range(5, 10):
            self.told("\n".join(GOOD[:many]), with_part(THREE_FALLS, 1, THREE_FALLS[1][:many - 5]))
        self.no_web(0, "")

    def test_line_ends(self):
        for many in range(1, 10):
            self.no_web(many, "\n".join(GOOD[:many]) + "\n")
            self.no_web(many, "\n".join(GOOD[:many] + [""] + GOOD[many:]))
        self.no_web(0, "\n" + "\n".join(GOOD))
        self.no_web(0, "\n")
        self.no_web(9, "\n".join(GOOD) + "\n\n")
        self.no_web(0, "; ".join(GOOD))

    def test_the_first_line_of_some_is_told(self):
        self.no_web(1, with_line(1, "place ONE 2").replace("tie", "tye"))
        self.no_web(0, with_line(0, "chance 2 1").replace("tie", "tye"))
        self.no_web(5, "\n".join(GOOD).replace("tie", "tye"))

    def test_no_text(self):
        for thing in NO_TEXTS:
            self.no_web(0, thing)

    def test_other_texts(self):
        for text in ("", "a", "one\ntwo", "(1, 2)", " ", "~" * 4000, " " * 4000, "1" * 4000, "lot 1: 0: 1"):
            self.no_web(0, text)

    def test_spoilt_texts(self):
        numbers = Numbers(140)
        lines = set()
        for web in all_webs():
            text = show_web(web)
            for turn in range(12):
                spoilt = self.spoilt(numbers, text)
                if is_text_of_a_web(spoilt):
                    self.told(spoilt, read_back(spoilt))
                else:
                    self.no_web(first_wrong_line(spoilt), spoilt)
                    lines.add(first_wrong_line(spoilt))
        self.assertGreater(len(lines), 10)

    def spoilt(self, numbers, text):
        """The text with a sign exchanged, put in or left out, or with lines exchanged, left out or twice."""
        lines = text.split("\n")
        at, kind = numbers.below(len(lines)), numbers.below(6)
        if kind == 0:
            return "\n".join(lines[:at] + lines[at + 1:])
        if kind == 1:
            return "\n".join(lines[:at] + lines[at:at + 1] + lines[at:])
        if kind == 2:
            return "\n".join(lines[:at] + lines[at + 1:at + 2] + lines[at:at + 1] + lines[at + 2:])
        at = numbers.below(len(text))
        return text[:at] + ("", " ", "0", "\n", "-", "1", "a", "9")[numbers.below(8)] + text[at + numbers.below(2):]

    def test_asked_behind_another_text(self):
        first = read_web("\n".join(GOOD))
        read_web(show_web(ALWAYS))
        self.no_web(2, "chance 1 2\nplace a 0\nstay")
        self.told("\n".join(GOOD), first)


class ReadLotTest(Reading):
    def told(self, text, lot):
        self.assertEqual(left_alone(self, read_lot, text), lot)

    def no_lot(self, text):
        self.refused(0, read_lot, text)

    def test_by_hand(self):
        self.told("lot 1: 0: 1", (1, (0,), (1,)))
        self.told("lot 22: 7,2: 0,0", (22, (7, 2), (0, 0)))
        self.told("lot 4: -1,5: 8,-7", (4, (-1, 5), (8, -7)))

    def test_what_is_written_is_read_back(self):
        for web, lot in lots_of_all_kinds(141):
            if max(len(str(abs(number))) for number in (lot[0], *lot[1], *lot[2])) <= 200:
                self.told(show_lot(lot), lot)
            else:
                self.no_lot(show_lot(lot))
        for web in all_webs():
            self.told(show_lot(exact_lot(web)), exact_lot(web))

    def test_one_that_fits_no_web(self):
        self.told("lot 1: 5,5,5: 7,7,7", (1, (5, 5, 5), (7, 7, 7)))

    def test_two_hundred_figures(self):
        nines = "9" * 200
        most = int(nines)
        self.told(f"lot {nines}: {nines},-{nines}: 0,-{nines}", (most, (most, -most), (0, -most)))
        great = "1" + "0" * 200
        for text in (f"lot {great}: 0: 1", f"lot 1: {great}: 1", f"lot 1: -{great}: 1", f"lot 1: 0: {great}",
                     f"lot 1: 0: -{great}", f"lot 1: 0,{great}: 1,1", f"lot 1: {'1' * 4000}: 1"):
            self.no_lot(text)

    def test_one_to_ten_places(self):
        for many in range(1, 11):
            row = tuple(range(many))
            text = ",".join(map(str, row))
            self.told(f"lot 3: {text}: {text}", (3, row, row))
        row = ",".join(map(str, range(11)))
        self.no_lot(f"lot 3: {row}: {row}")
        self.no_lot("lot 3: : ")

    def test_as_many_goings_as_rests(self):
        for text in ("lot 1: 0,0: 1", "lot 1: 0: 1,1", "lot 1: 0: ", "lot 1: : 1", "lot 1: 0,1,2: 0,1", "lot 1: 0,: 1,1",
                     "lot 1: 0,1: 1,", "lot 1: ,0: 1,1", "lot 1: 0,,1: 1,1,1"):
            self.no_lot(text)

    def test_grains(self):
        for grains in ("0", "-1", "-22"):
            self.no_lot(f"lot {grains}: 0: 1")

    def test_numbers(self):
        for word in NO_NUMBERS:
            for text in (f"lot {word}: 0: 1", f"lot 1: {word}: 1", f"lot 1: 0: {word}", f"lot 1: 2,{word}: 3,4",
                         f"lot 1: 2,3: {word},4"):
                self.no_lot(text)

    def test_other_forms(self):
        for text in ("", "lot", "lot ", "lot 1", "lot 1: 0", "lot 1: 0: 1: 2", "lot 1:0: 1", "lot 1: 0:1", "lot 1 : 0: 1",
                     "lot  1: 0: 1", "lot 1:  0: 1", "lot 1: 0:  1", " lot 1: 0: 1", "lot 1: 0: 1 ", "lot 1: 0: 1\n",
                     "\nlot 1: 0: 1", "lot 1: 0: 1\nlot 1: 0: 1", "Lot 1: 0: 1", "lot1: 0: 1", "lots 1: 0: 1", "1: 0: 1",
                     "lot 1: 0, 1: 1,1", "lot 1: 0 ,1: 1,1", "lot 1; 0; 1", "lot (1): 0: 1", "lot 1: (0,): (1,)", ": : ",
                     "lot : : ", "place 1: 0: 1", "lot\n1: 0: 1", "lot 1:\n0: 1", "1/2", "a > b"):
            self.no_lot(text)

    def test_no_text(self):
        for thing in NO_TEXTS + ((1, (0,), (1,)),):
            self.no_lot(thing)


class ReadFractionTest(Reading):
    def told(self, text, one):
        self.assertEqual(left_alone(self, read_fraction, text), one)

    def no_fraction(self, text):
        self.refused(0, read_fraction, text)

    def test_by_hand(self):
        self.told("0/1", (0, 1))
        self.told("1/1", (1, 1))
        self.told("-1/2", (-1, 2))
        self.told("10/3", (10, 3))
        self.told("-101/100", (-101, 100))

    def test_what_is_written_is_read_back(self):
        for top in range(-30, 31):
            for bottom in range(1, 31):
                one = Fraction(top, bottom)
                told = (one.numerator, one.denominator)
                self.told(show_fraction(told), told)
        for web in all_webs():
            for a in range(len(web[0])):
                share = share_of(shares_of(web), a)
                self.told(show_fraction(share), share)

    def test_not_in_lowest_terms(self):
        for text in ("2/2", "2/4", "0/2", "-2/2", "-3/6", "0/0", "1/0", "-1/0", "1/-2", "-1/-2", "0/-1", "6/9"):
            self.no_fraction(text)

    def test_two_hundred_figures(self):
        most = 10 ** 200 - 1
        self.told(f"{most}/{most - 1}", (most, most - 1))
        self.told(f"-{most}/1", (-most, 1))
        self.no_fraction(f"{most + 1}/1")
        self.no_fraction(f"-{most + 1}/1")
        self.no_fraction(f"1/{most + 1}")
        self.no_fraction(show_fraction((10 ** 200 + 1, 10 ** 200)))
        self.no_fraction("1" * 3999 + "/")

    def test_numbers(self):
        for word in NO_NUMBERS:
            self.no_fraction(f"{word}/1")
            self.no_fraction(f"1/{word}")

    def test_other_forms(self):
        for text in ("", "/", "1", "1/", "/1", "1/2/3", "1//2", "1 / 2", " 1/2", "1/2 ", "1/2\n", "\n1/2", "1/ 2", "1,2", "(1, 2)",
                     "1:2", "0.5", "1/2 1/2", "one/two"):
            self.no_fraction(text)

    def test_no_text(self):
        for thing in NO_TEXTS + ((1, 2),):
            self.no_fraction(thing)


class ReadRankingTest(Reading):
    def told(self, web, text, ranking):
        self.assertEqual(left_alone(self, read_ranking, web, text), ranking)

    def no_ranking(self, web, text):
        self.refused(0, read_ranking, web, text)

    def test_by_hand(self):
        self.told(LONE, "a", (0,))
        self.told(PAIR, "left > right", (0, 1))
        self.told(PAIR, "right > left", (1, 0))
        self.told(THREE, "three > one > two", (2, 0, 1))

    def test_what_is_written_is_read_back(self):
        numbers = Numbers(142)
        for web in all_webs():
            for ranking in (some_order(numbers, len(web[0])), ranking_of(shares_of(web))):
                self.told(web, show_ranking(web, ranking), ranking)
        self.told(TEN, " > ".join(TEN_NAMES), tuple(range(10)))

    def test_other_forms(self):
        for text in ("", "left", "right", "left > left", "right > right", "left > right > left", "left > right > right",
                     "left > wrong", "Left > right", "left>right", "left >right", "left> right", "left  > right",
                     "left >  right", " left > right", "left > right ", "left > right\n", "\nleft > right", "left\n> right",
                     "left > right > ", " > left > right", "left >  > right", "left < right", "left, right", "0 > 1", "0", " > ",
                     "left right", "leftright", "left > r", "right > left > one"):
            self.no_ranking(PAIR, text)
        for text in ("", "b", "a > a", "a > b", " a", "a ", "aa"):
            self.no_ranking(LONE, text)
        self.no_ranking(TEN, " > ".join(TEN_NAMES[:9]))
        self.no_ranking(TEN, " > ".join(TEN_NAMES + ("a",)))

    def test_of_another_web(self):
        self.no_ranking(THREE, "left > right")
        self.no_ranking(PAIR, "one > two > three")
        self.told(THREE, "one > two > three", (0, 1, 2))

    def test_no_text(self):
        for thing in NO_TEXTS + ((0, 1), ["left", "right"]):
            self.no_ranking(PAIR, thing)


if __name__ == "__main__":
    unittest.main()
