"""The names and arguments of the interface stand where it lists them."""

import importlib
import inspect
import unittest

LISTED = {
    "fractions": ("fraction(top, bottom)", "is_fraction(thing)"),
    "webs": ("is_web(thing)",),
    "rows": ("row_of(web, a)", "weight_of(web, a)"),
    "columns": ("column_of(web, a)", "size_of(web, a)"),
    "splits": ("is_split(many, thing)", "split_of(numbers)", "share_of(split, a)", "gap(one, other)"),
    "rounds": ("one_round(web, split)", "after(web, split, many)", "bound_behind(web, many)"),
    "shares": ("shares_of(web)", "lets_shares(web, thing)"),
    "lots": ("is_lot(web, thing)", "lot_by(web, grains, goings)", "begun(web, grains)", "joined(one, other)"),
    "exact": ("exact_lot(web)",),
    "pushes": ("can_push(web, lot)", "push(web, lot, a, many)"),
    "changes": ("changed(web, change)", "touched(web, change)", "with_leaps(web, leaps)"),
    "ends": ("told_share(web, lot, a)", "ends_of(web, lot, a)"),
    "tables": ("table_of(web)", "lets_table(web, thing)"),
    "kepttables": ("table_changed(web, table, change)",),
    "lifts": ("share_behind(web, table, change, k)", "best_change(web, k, changes)", "worst_change(web, k, changes)"),
    "rankings": ("is_ranking(many, thing)", "ranking_of(split)", "surely_ahead(web, lot)"),
    "primes": ("is_prime(thing)",),
    "turned": ("turned_web(web, order)", "turned_split(split, order)", "turned_lot(lot, order)",
               "turned_ranking(ranking, order)"),
    "sweeps": ("end_of(web, lot)",),
    "keptlots": ("lot_changed(web, lot, change)", "lot_with_leaps(web, lot, leaps)"),
    "texts": ("show_web(web)", "show_lot(lot)", "show_fraction(one)", "show_ranking(web, ranking)"),
    "parts": ("is_closed(web, part)", "least_closed(web)"),
    "near": ("nearness_of(web, split)", "lets_near(web, thing)"),
    "mixtures": ("shares_from(web, a)", "shares_by(web, table)"),
    "liftpapers": ("lift_paper(web, k, changes)", "lets_lift(web, k, changes, thing)"),
    "apart": ("apart(one, other)", "way_between(one, other)", "lies_between(one, middle, other)"),
    "middles": ("ahead_by_most(rankings, a, b)", "sum_of(rankings, ranking)", "floor_of(rankings)", "middle_of(rankings)"),
    "inflows": ("comes_in(web, split, part)",),
    "staying": ("staying(web, part)",),
    "byprime": ("goings_by(web, prime)",),
    "putback": ("put_back(number, modulus, most)",),
    "residues": ("span_of(web)", "exact_by(web, primes)"),
    "looks": ("reach_of(web, lot)", "looked_at(web, thing, primes)"),
    "reader": ("read_web(text)", "read_lot(text)", "read_fraction(text)", "read_ranking(web, text)"),
}

CLASSES = {
    "keeper": ("Keeper(web, grains)", ("tie(self, change)", "leap(self, leaps)", "push(self, a, many)", "settle(self)",
                                       "back(self)", "web(self)", "lot(self)", "ends(self, a)", "ahead(self)")),
    "desk": ("Desk(text, grains)", ("say(self, row)",)),
}


class InterfaceTest(unittest.TestCase):
    def test_functions_are_defined_where_they_are_listed(self):
        for name, forms in LISTED.items():
            module = importlib.import_module("leapranks." + name)
            for form in forms:
                function = getattr(module, form.split("(")[0])
                self.assertTrue(inspect.isfunction(function), form)
                self.assertEqual(function.__module__, module.__name__)
                self.assertEqual(function.__name__ + str(inspect.signature(function)), form)

    def test_classes_define_the_methods_that_are_listed(self):
        for name, (form, methods) in CLASSES.items():
            module = importlib.import_module("leapranks." + name)
            made = getattr(module, form.split("(")[0])
            self.assertEqual(made.__module__, module.__name__)
            self.assertEqual(made.__name__ + str(inspect.signature(made)), form)
            for method in methods:
                function = vars(made)[method.split("(")[0]]
                self.assertTrue(inspect.isfunction(function), method)
                self.assertEqual(function.__name__ + str(inspect.signature(function)), method)


if __name__ == "__main__":
    unittest.main()
