"""The interface of DOC.md: each name is there, in its own file, with its arguments, and each method in its own class."""

import importlib
import inspect
import unittest

# What each file has: functions and classes as the document writes them, and numbers.
FILES = {
    "ratios": ["is_ratio(thing)", "ratio(top, bottom=1)", "simplest(low, high)"],
    "polys": ["is_poly(thing)", "poly_plus(one, other)", "poly_times(one, other)", "value_at(poly, number)",
              "plain(poly)", "quotient(one, other)", "common(one, other)", "layers(poly)", "resultant(one, other)"],
    "chains": ["chain(poly)", "many_roots(poly, *, low=None, high=None)", "chain_holds(poly, rows)",
               "taken(poly, other)", "sides(poly, other)"],
    "modular": ["parts_by(poly, prime)"],
    "factors": ["factors(poly)", "is_single(poly)"],
    "reals": ["number(top, bottom=1)", "root(poly, place=0)", "roots(poly)", "between(one, other)", "spans(poly)",
              "spans_hold(poly, rows)"],
    "fields": ["Field(base)", "value_of(poly, one)"],
    "signs": ["sign_at(poly, one)", "cells(polys)", "sign_rows(polys)"],
    "regions": ["is_formula(thing)", "region(formula)"],
    "sheets": ["is_name(thing)", "is_tree(thing)", "Sheet(*, limit=24)"],
    "texts": ["write_poly(poly)", "read_poly(text)", "read_real(text)", "write_tree(tree)", "read_tree(text)",
              "write_formula(formula)", "read_formula(text)", "write_pieces(pieces)"],
    "desk": ["Desk(*, limit=24)"],
}
NUMBERS = {"polys": {"MOST_DEGREE": 12}, "reals": {"THOUSAND": 1000}, "sheets": {"LIMIT": 24}}
CLASSES = {
    ("reals", "Real"): ["sign()", "side(other)", "floor()", "near(*, bottom=1000)", "span(*, narrow=1000)",
                        "opposite()", "plus(other)", "minus(other)", "times(other)", "over(other)", "raised(many)",
                        "nth(many)", "__eq__(other)", "__str__()"],
    ("fields", "Field"): ["is_own(thing)", "brought(poly)", "plus(one, other)", "times(one, other)", "inverse(one)",
                          "trace(one)", "norm(one)", "least_poly(one)", "value(one)", "side(one)"],
    ("regions", "Region"): ["pieces()", "holds(one)", "some()", "least()", "most()", "wholes(low, high)", "both(other)",
                            "either(other)", "rest()", "within(other)", "__eq__(other)", "__len__()"],
    ("sheets", "Sheet"): ["put(name, tree)", "strike(name)", "back()", "again()", "names()", "tree(name)", "uses(name)",
                          "users(name)", "order()", "value(name)", "walk()", "twin()", "__len__()"],
    ("desk", "Desk"): ["ask(row)", "told()", "__len__()"],
}


def file_of(name):
    return importlib.import_module("trueroots." + name)


def written(name, ask, own):
    """A function as the document writes it; own tells that its first argument is its object."""
    listed = list(inspect.signature(ask).parameters.values())[1 if own else 0:]
    return name + str(inspect.Signature(listed))


class Interface(unittest.TestCase):
    def test_functions_and_classes(self):
        for file, rows in FILES.items():
            for row in rows:
                name = row.partition("(")[0]
                thing = getattr(file_of(file), name)
                self.assertEqual(written(name, thing, False), row)
                self.assertEqual(thing.__module__, "trueroots." + file)

    def test_numbers(self):
        for file, numbers in NUMBERS.items():
            for name, due in numbers.items():
                self.assertEqual(getattr(file_of(file), name), due)

    def test_attributes_are_set_when_an_object_is_created(self):
        reals = file_of("reals")
        real = reals.root((-2, 0, 1), 1)
        self.assertEqual((real.poly, real.place), ((-2, 0, 1), 1))
        field = file_of("fields").Field(real)
        self.assertEqual((field.base, field.size), (real, 2))

    def test_classes_that_askers_do_not_call(self):
        self.assertIsInstance(file_of("reals").Real, type)
        self.assertIsInstance(file_of("regions").Region, type)
        self.assertEqual(file_of("regions").Region.__module__, "trueroots.regions")

    def test_methods_stand_in_their_own_class(self):
        for (file, kind), rows in CLASSES.items():
            own = vars(getattr(file_of(file), kind))
            for row in rows:
                name = row.partition("(")[0]
                self.assertIn(name, own)
                self.assertEqual(written(name, own[name], True), row)


if __name__ == "__main__":
    unittest.main()
