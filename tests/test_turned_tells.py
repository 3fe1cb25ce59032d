"""All that is told of a turned web is what is told of the web, turned."""

import unittest

from leapranks.apart import apart, lies_between
from leapranks.byprime import goings_by
from leapranks.changes import changed, touched, with_leaps
from leapranks.columns import column_of, size_of
from leapranks.desk import Desk
from leapranks.ends import told_share
from leapranks.errors import NoLuck
from leapranks.inflows import comes_in
from leapranks.keeper import Keeper
from leapranks.keptlots import lot_changed, lot_with_leaps
from leapranks.kepttables import table_changed
from leapranks.liftpapers import lets_lift, lift_paper
from leapranks.lifts import best_change, share_behind, worst_change
from leapranks.looks import looked_at, reach_of
from leapranks.lots import begun, lot_by
from leapranks.middles import ahead_by_most, floor_of, middle_of, sum_of
from leapranks.mixtures import shares_by, shares_from
from leapranks.near import lets_near, nearness_of
from leapranks.parts import is_closed, least_closed
from leapranks.pushes import can_push, push
from leapranks.reader import read_lot, read_web
from leapranks.residues import exact_by, span_of
from leapranks.rounds import after, bound_behind, one_round
from leapranks.rows import row_of, weight_of
from leapranks.shares import lets_shares, shares_of
from leapranks.splits import gap, share_of
from leapranks.staying import staying
from leapranks.tables import table_of
from leapranks.texts import show_web
from leapranks.turned import turned_lot, turned_ranking, turned_split, turned_web
from tests.examples import Numbers, all_webs, some_leaps, some_split
from tests.test_byprime import GREAT_PRIMES
from tests.test_inflows import some_parts
from tests.test_lifts import some_changes
from tests.test_lots import some_goings
from tests.test_middles import lists_of_all_kinds
from tests.test_residues import lucky
from tests.test_turned import some_order


def turned_things(things, order):
    """A tuple with each thing where the order leads its place."""
    return tuple(things[order.index(k)] for k in range(len(order)))


def turned_change(change, order):
    return (order[change[0]], order[change[1]], change[2])


def turned_places(places, order):
    return sorted(order[a] for a in places)


def turned_table(table, order):
    return (table[0], turned_things([turned_things(row, order) for row in table[1]], order))


def turned_part(part, order):
    return tuple(turned_places(part, order))


def pairs(seed):
    """Tuples (numbers, web, order, turned web)."""
    numbers = Numbers(seed)
    for web in all_webs():
        order = some_order(numbers, len(web[0]))
        yield numbers, web, order, turned_web(web, order)


class WebsTest(unittest.TestCase):
    def test_rows_and_columns(self):
        for numbers, web, order, other in pairs(210):
            for a in range(len(order)):
                self.assertEqual(row_of(other, order[a]), turned_things(row_of(web, a), order))
                self.assertEqual(column_of(other, order[a]), turned_things(column_of(web, a), order))
                self.assertEqual((weight_of(other, order[a]), size_of(other, order[a])), (weight_of(web, a), size_of(web, a)))

    def test_shares_rounds_and_nearness(self):
        for numbers, web, order, other in pairs(211):
            split, second = some_split(numbers, len(order)), some_split(numbers, len(order))
            turned = turned_split(split, order)
            self.assertEqual(shares_of(other), turned_split(shares_of(web), order))
            self.assertIs(lets_shares(other, turned), lets_shares(web, split))
            self.assertEqual(one_round(other, turned), turned_split(one_round(web, split), order))
            self.assertEqual(after(other, turned, 3), turned_split(after(web, split, 3), order))
            self.assertEqual(bound_behind(other, 9), bound_behind(web, 9))
            self.assertEqual(gap(turned, turned_split(second, order)), gap(split, second))
            self.assertEqual(nearness_of(other, turned), nearness_of(web, split))
            for bound in ((0, 1), (1, 7), nearness_of(web, split), (24, 1)):
                self.assertIs(lets_near(other, (turned, bound)), lets_near(web, (split, bound)))
            for a in range(len(order)):
                self.assertEqual(share_of(turned, order[a]), share_of(split, a))

    def test_lots_and_pushes(self):
        for numbers, web, order, other in pairs(212):
            goings = some_goings(numbers, len(order), 40)
            lot = lot_by(web, 70, goings)
            turned = turned_lot(lot, order)
            self.assertEqual(lot_by(other, 70, turned_things(goings, order)), turned)
            self.assertEqual(begun(other, 9), turned_lot(begun(web, 9), order))
            self.assertEqual(can_push(other, turned), turned_places(can_push(web, lot), order))
            for a in can_push(web, lot):
                many = -1 if lot[2][a] < 0 else 1
                self.assertEqual(push(other, turned, order[a], many), turned_lot(push(web, lot, a, many), order))
            for a in range(len(order)):
                self.assertEqual(told_share(other, turned, order[a]), told_share(web, lot, a))
            self.assertEqual(reach_of(other, turned), reach_of(web, lot))
            self.assertIs(looked_at(other, turned, GREAT_PRIMES), True)

    def test_changes_and_kept_lots(self):
        for numbers, web, order, other in pairs(213):
            lot = lot_by(web, 70, some_goings(numbers, len(order), 40))
            leaps = some_leaps(numbers, len(order))
            turned = turned_lot(lot, order)
            for change in some_changes(numbers, web, 4):
                moved = turned_change(change, order)
                self.assertEqual(changed(other, moved), turned_web(changed(web, change), order))
                self.assertEqual(touched(other, moved), turned_places(touched(web, change), order))
                self.assertEqual(lot_changed(other, turned, moved), turned_lot(lot_changed(web, lot, change), order))
            moved = turned_things(leaps, order)
            self.assertEqual(with_leaps(other, moved), turned_web(with_leaps(web, leaps), order))
            self.assertEqual(lot_with_leaps(other, turned, moved), turned_lot(lot_with_leaps(web, lot, leaps), order))

    def test_tables_and_mixtures(self):
        for numbers, web, order, other in pairs(214):
            table = table_of(web)
            turned = turned_table(table, order)
            self.assertEqual(table_of(other), turned)
            self.assertEqual(shares_by(other, turned), turned_split(shares_by(web, table), order))
            for change in some_changes(numbers, web, 2):
                self.assertEqual(table_changed(other, turned, turned_change(change, order)),
                                 turned_table(table_changed(web, table, change), order))
            for a in range(len(order)):
                self.assertEqual(shares_from(other, order[a]), turned_split(shares_from(web, a), order))

    def test_lifts(self):
        for numbers, web, order, other in pairs(215):
            changes = some_changes(numbers, web, 5)
            moved = [turned_change(change, order) for change in changes]
            k = numbers.below(len(order))
            self.assertEqual(best_change(other, order[k], moved), best_change(web, k, changes))
            self.assertEqual(worst_change(other, order[k], moved), worst_change(web, k, changes))
            self.assertEqual(share_behind(other, table_of(other), moved[0], order[k]),
                             share_behind(web, table_of(web), changes[0], k))
            at, lots = lift_paper(web, k, changes)
            for number in range(5):
                paper = (number, [turned_lot(lot, order) for lot in lots])
                self.assertIs(lets_lift(other, order[k], moved, paper), lets_lift(web, k, changes, (number, lots)))

    def test_parts_inflows_and_staying_splits(self):
        for numbers, web, order, other in pairs(216):
            split = some_split(numbers, len(order))
            self.assertEqual(least_closed(other), sorted(turned_part(part, order) for part in least_closed(web)))
            for part in some_parts(numbers, web, 5):
                self.assertIs(is_closed(other, turned_part(part, order)), is_closed(web, part))
                self.assertEqual(comes_in(other, turned_split(split, order), turned_part(part, order)),
                                 comes_in(web, split, part))
            for part in least_closed(web):
                self.assertEqual(staying(other, turned_part(part, order)), turned_split(staying(web, part), order))

    def test_residues(self):
        for numbers, web, order, other in pairs(217):
            for prime in (2, 3, 7, 101, 999983):
                if table_of(web)[0] % prime:
                    self.assertEqual(goings_by(other, prime), turned_things(goings_by(web, prime), order))
                else:
                    with self.assertRaises(NoLuck):
                        goings_by(other, prime)
            self.assertEqual(span_of(other), span_of(web))
            self.assertEqual(exact_by(other, lucky(web)), turned_lot(exact_by(web, lucky(web)), order))


class RankingsTest(unittest.TestCase):
    def test_apart_and_between(self):
        numbers = Numbers(218)
        for turn in range(100):
            many = numbers.between(1, 10)
            order = some_order(numbers, many)
            rankings = [some_order(numbers, many) for k in range(3)]
            moved = [turned_ranking(ranking, order) for ranking in rankings]
            self.assertEqual(apart(*moved[:2]), apart(*rankings[:2]))
            self.assertIs(lies_between(*moved), lies_between(*rankings))

    def test_middles(self):
        numbers = Numbers(219)
        for rankings in lists_of_all_kinds(220, 8):
            places = rankings[0]
            order = some_order(numbers, len(places))
            moved = [turned_ranking(ranking, order) for ranking in rankings]
            self.assertEqual(floor_of(moved), floor_of(rankings))
            self.assertEqual(sum_of(moved, turned_ranking(places, order)), sum_of(rankings, places))
            told, turned = middle_of(rankings), middle_of(moved)
            self.assertEqual((turned[0], turned[-1]), (told[0], told[-1]))
            if told[0] == "ring":
                self.assertEqual(turned[2], turned_ranking(told[2], order))
            for a in places:
                for b in places:
                    self.assertIs(ahead_by_most(moved, order[a], order[b]), ahead_by_most(rankings, a, b))


class KeepersAndDesksTest(unittest.TestCase):
    def test_keepers(self):
        for numbers, web, order, other in pairs(221):
            one, turned = Keeper(web, 10 ** 6), Keeper(other, 10 ** 6)
            change = some_changes(numbers, web, 1)[0]
            leaps = some_leaps(numbers, len(order))
            a = can_push(web, one.lot())[0]
            # No rest is below 0 when all is settled: so both come to the same end.
            deeds = ((one.push(a, 1), turned.push(order[a], 1)), (one.settle(), turned.settle()),
                     (one.tie(change), turned.tie(turned_change(change, order))),
                     (one.leap(leaps), turned.leap(turned_things(leaps, order))), (one.back(), turned.back()))
            for told, moved in deeds:
                self.assertEqual(moved, turned_part(told, order))
            self.assertEqual(turned.web(), turned_web(one.web(), order))
            self.assertEqual(turned.lot(), turned_lot(one.lot(), order))
            self.assertEqual([turned.ends(order[a]) for a in range(len(order))], [one.ends(a) for a in range(len(order))])
            self.assertEqual(turned.ahead(), sorted((order[a], order[b]) for a, b in one.ahead()))

    def test_desks_by_names(self):
        for numbers, web, order, other in pairs(222):
            one, turned = Desk(show_web(web), 1000), Desk(show_web(other), 1000)
            names = web[0]
            a, b, weight = some_changes(numbers, web, 1)[0]
            leaps = some_leaps(numbers, len(names))
            for row in ("settle", f"tie {names[a]} {names[b]} {weight}", "back"):
                self.assertEqual(sorted(turned.say(row).split(" ")), sorted(one.say(row).split(" ")))
            told, moved = (desk.say("leaps " + " ".join(map(str, row)))
                           for desk, row in ((one, leaps), (turned, turned_things(leaps, order))))
            self.assertEqual(sorted(moved.split(" ")), sorted(told.split(" ")))
            self.assertEqual(read_web(turned.say("web").replace("; ", "\n")),
                             turned_web(read_web(one.say("web").replace("; ", "\n")), order))
            self.assertEqual(read_lot(turned.say("lot")), turned_lot(read_lot(one.say("lot")), order))
            for name in names:
                for row in (f"ends {name}", f"share {name}", f"ahead {name} {names[a]}", f"ahead {names[b]} {name}",
                            f"behind {name} {names[a]} {names[b]} {weight}"):
                    self.assertEqual(turned.say(row), one.say(row))
            self.assertEqual(sorted(sorted(part.split("+")) for part in turned.say("parts").split(" ")),
                             sorted(sorted(part.split("+")) for part in one.say("parts").split(" ")))
            shares = shares_of(with_leaps(web, leaps))[0]
            if len(set(shares)) == len(shares):
                self.assertEqual(turned.say("ranking"), one.say("ranking"))


if __name__ == "__main__":
    unittest.main()
