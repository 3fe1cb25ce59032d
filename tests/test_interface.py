"""The names and arguments of the interface stand where it lists them."""

import importlib
import inspect
import unittest

LISTED = {
    "fractions": ("fraction(top, bottom)", "is_fraction(thing)"),
    "webs": ("is_web(thing)",),
    "rows": ("row_of(web, a)", "weight_of(web, a)"),
    "columns": ("column_of(web, a)", "size_of(web, a)"),
    "splits": ("is_split(many, thing)", "split_of(numbers)", "share_of(split, a)", "gap(one, other)"),
    "rounds": ("one_round(web, split)", "after(web, split, many)", "bound_behind(web, many)"),
    "shares": ("shares_of(web)", "lets_shares(web, thing)"),
    "lots": ("is_lot(web, thing)", "lot_by(web, grains, goings)", "begun(web, grains)", "joined(one, other)"),
    "exact": ("exact_lot(web)",),
    "pushes": ("can_push(web, lot)", "push(web, lot, a, many)"),
    "changes": ("changed(web, change)", "touched(web, change)", "with_leaps(web, leaps)"),
    "ends": ("told_share(web, lot, a)", "ends_of(web, lot, a)"),
    "tables": ("table_of(web)", "lets_table(web, thing)"),
    "kepttables": ("table_changed(web, table, change)",),
    "lifts": ("share_behind(web, table, change, k)", "best_change(web, k, changes)", "worst_change(web, k, changes)"),
    "rankings": ("is_ranking(many, thing)", "ranking_of(split)", "surely_ahead(web, lot)"),
    "parts": ("is_closed(web, part)", "least_closed(web)"),
}


class InterfaceTest(unittest.TestCase):
    def test_functions_are_defined_where_they_are_listed(self):
        for name, forms in LISTED.items():
            module = importlib.import_module("leapranks." + name)
            for form in forms:
                function = getattr(module, form.split("(")[0])
                self.assertTrue(inspect.isfunction(function), form)
                self.assertEqual(function.__module__, module.__name__)
                self.assertEqual(function.__name__ + str(inspect.signature(function)), form)


if __name__ == "__main__":
    unittest.main()
