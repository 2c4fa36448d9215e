"""[5] at every door, [2] over the whole, and each error by its own class and those above it."""

import copy
import unittest

from nearby import CUBE_2, SQUARE_2, THREE, refused, square_root
from things import GREAT, NO_POLYS

from trueroots import errors
from trueroots.chains import chain, chain_holds, many_roots, sides, taken
from trueroots.desk import Desk
from trueroots.factors import factors, is_single
from trueroots.fields import Field, value_of
from trueroots.modular import parts_by
from trueroots.polys import common, layers, plain, poly_plus, poly_times, quotient, resultant, value_at
from trueroots.ratios import ratio, simplest
from trueroots.reals import between, number, root, roots, spans, spans_hold
from trueroots.regions import is_formula, region
from trueroots.sheets import Sheet, is_tree
from trueroots.signs import cells, sign_at, sign_rows
from trueroots.texts import read_formula, read_poly, read_tree, write_formula, write_poly, write_tree

TWO = ("root", SQUARE_2, 1)

# Each door with good things, the places where polynomials stand, and those of these where nought is refused.
DOORS = [
    (poly_plus, [SQUARE_2, CUBE_2], [0, 1], []), (poly_times, [SQUARE_2, CUBE_2], [0, 1], []),
    (value_at, [SQUARE_2, (1, 2)], [0], []), (plain, [SQUARE_2], [0], []), (quotient, [SQUARE_2, (1,)], [0, 1], [1]),
    (common, [SQUARE_2, CUBE_2], [0, 1], []), (layers, [SQUARE_2], [0], [0]), (resultant, [SQUARE_2, CUBE_2], [0, 1], []),
    (chain, [SQUARE_2], [0], [0]), (many_roots, [SQUARE_2], [0], [0]), (chain_holds, [SQUARE_2, []], [0], [0]),
    (taken, [SQUARE_2, CUBE_2], [0, 1], [0]), (sides, [SQUARE_2, CUBE_2], [0, 1], [0]),
    (parts_by, [SQUARE_2, 3], [0], [0]), (factors, [SQUARE_2], [0], [0]), (is_single, [SQUARE_2], [0], []),
    (root, [SQUARE_2, 0], [0], [0]), (roots, [SQUARE_2], [0], [0]), (spans, [SQUARE_2], [0], [0]),
    (spans_hold, [SQUARE_2, []], [0], [0]), (Field(square_root(3)).brought, [SQUARE_2], [0], []),
    (value_of, [SQUARE_2, number(1)], [0], []), (sign_at, [SQUARE_2, number(1)], [0], []),
    (write_poly, [SQUARE_2], [0], []),
]
# Things in the other places that would be refused, too.
WRONG = [None, "x", True, (2, 4), [None], -1]


class Doors(unittest.TestCase):
    def test_each_place(self):
        for ask, good, places, noughts in DOORS:
            ask(*good)
            for place in places:
                for thing in NO_POLYS:
                    handed = list(good)
                    handed[place] = thing
                    refused(self, errors.NoPoly, ask, *handed)

    def test_nought_where_that_is_told(self):
        for ask, good, places, noughts in DOORS:
            for place in places:
                handed = list(good)
                handed[place] = ()
                if place in noughts:
                    refused(self, errors.NoPoly, ask, *handed)
                else:
                    ask(*handed)

    def test_ahead_of_all_else(self):
        for ask, good, places, noughts in DOORS:
            others = [at for at in range(len(good)) if at not in places]
            for at in others:
                for wrong in WRONG:
                    for thing in [None, (0,), [1], True, (1,) * 14]:
                        handed = list(good)
                        handed[places[0]] = thing
                        handed[at] = wrong
                        refused(self, errors.NoPoly, ask, *handed)

    def test_both_places_wrong(self):
        for ask, good, places, noughts in DOORS:
            if len(places) == 2:
                refused(self, errors.NoPoly, ask, None, None)
                refused(self, errors.NoPoly, ask, (), (0,))
                refused(self, errors.NoPoly, ask, (0,), ())

    def test_ends_of_many_roots(self):
        for thing in NO_POLYS + [()]:
            refused(self, errors.NoPoly, many_roots, thing, low=None, high="x")
            refused(self, errors.NoPoly, many_roots, thing, low=(2, 4))

    def test_lists_of_polynomials(self):
        for ask in [cells, sign_rows, lambda polys: chain_holds(SQUARE_2, polys)]:
            for thing in NO_POLYS:
                refused(self, errors.NoPoly, ask, [SQUARE_2, thing])

    def test_formulas_and_trees_that_hold_none(self):
        for thing in NO_POLYS:
            self.assertIs(is_formula(("side", "<", thing)), False)
            refused(self, errors.NoFormula, region, ("side", "<", thing))
            refused(self, errors.NoFormula, write_formula, ("side", "<", thing))
            self.assertIs(is_tree(("root", thing, 0)), False)
            refused(self, errors.NoTree, Sheet().put, "a", ("root", thing, 0))
            refused(self, errors.NoTree, write_tree, ("root", thing, 0))
        self.assertIs(is_formula(("side", "<", ())), True)
        self.assertIs(is_tree(("root", (), 0)), False)
        refused(self, errors.NoTree, Sheet().put, "a", ("root", (), 0))


def ring_sheet():
    sheet = Sheet(limit=1)
    sheet.put("a", ("name", "a"))
    return sheet


# How each refusal comes about, and its field.
REFUSALS = {
    "NoRatio": (lambda: ratio(1, 0), {}),
    "NoPoly": (lambda: roots(()), {}),
    "NoPrime": (lambda: parts_by(SQUARE_2, 4), {}),
    "NoElement": (lambda: Field(number(1)).trace(()), {}),
    "NoFormula": (lambda: region(()), {}),
    "NoTree": (lambda: Sheet().put("a", ()), {}),
    "NoText": (lambda: read_poly("1x"), {}),
    "NoName": (lambda: Sheet().value("a"), {"name": "a"}),
    "NoRoot": (lambda: root(THREE, 3), {"many": 3}),
    "NoReal": (lambda: number(-1).nth(2), {}),
    "NoDivision": (lambda: number(1).over(number(0)), {}),
    "TooGreat": (lambda: root(CUBE_2).plus(number(2).nth(5)), {"degree": 15}),
    "Folds": (lambda: parts_by(SQUARE_2, 2), {}),
    "NothingBetween": (lambda: simplest((1, 1), (1, 1)), {}),
    "NothingLeft": (lambda: region(("some", ())).some(), {}),
    "Ring": (lambda: ring_sheet().value("a"), {"ring": ("a",)}),
    "Full": (lambda: ring_sheet().put("b", TWO), {}),
    "NothingDone": (lambda: Sheet().back(), {}),
}
SUCH = ["NoRatio", "NoPoly", "NoPrime", "NoElement", "NoFormula", "NoTree", "NoText", "NoName"]


class Errors(unittest.TestCase):
    def test_each_by_its_own_class_and_those_above(self):
        for name, (ask, fields) in REFUSALS.items():
            for other in list(REFUSALS) + ["NoSuch", "NoValue", "RootError"]:
                above = other in (name, "RootError", "NoSuch" if name in SUCH else "NoValue")
                kind = getattr(errors, other)
                try:
                    ask()
                    self.fail(name)
                except kind:
                    self.assertTrue(above, (name, other))
                except ValueError as error:
                    self.assertFalse(above, (name, other))
                    self.assertIs(type(error), getattr(errors, name))

    def test_their_fields(self):
        for name, (ask, fields) in REFUSALS.items():
            with self.assertRaises(getattr(errors, name)) as caught:
                ask()
            self.assertEqual(vars(caught.exception), fields)

    def test_between_reals_too(self):
        refused(self, errors.NothingBetween, between, number(1), number(1))


class Whole(unittest.TestCase):
    """[2]"""

    def test_the_same_asked_again(self):
        sheet = Sheet()
        sheet.put("a", TWO)
        sheet.put("b", ("plus", ("name", "a"), ("number", 1, 3)))
        two = square_root(2)
        field = Field(two)
        formula = ("side", "<", THREE)
        asks = [
            lambda: roots(THREE), lambda: spans(THREE), lambda: cells([THREE, SQUARE_2]), lambda: sign_rows([THREE, ()]),
            lambda: region(formula).pieces(), lambda: region(formula).some(), lambda: sheet.names(), lambda: sheet.order(),
            lambda: sheet.uses("b"), lambda: sheet.users("a"), lambda: sheet.value("b"), lambda: sheet.walk(),
            lambda: two.span(), lambda: two.near(), lambda: field.brought((1, 2, 3)), lambda: chain(THREE),
            lambda: layers(THREE), lambda: factors(THREE), lambda: parts_by(THREE, 5), lambda: sheet.twin().names(),
            lambda: root(THREE, 1).plus(two), lambda: read_tree("(plus a 1/3)"), lambda: read_formula("(side < x)"),
        ]
        sheet.value("b")
        first = [ask() for ask in asks]
        self.assertEqual([ask() for ask in asks], first)
        for told in [each for each in first if isinstance(each, list)]:
            told.clear()
        again = [ask() for ask in asks]
        for ask, before, now in zip(asks, first, again):
            self.assertEqual(ask(), now)
            if isinstance(before, list):
                self.assertEqual(before, [])
                self.assertTrue(now)
        self.assertEqual(factors(THREE)[1], [(THREE, 1)])

    def test_lists_within_what_was_told(self):
        part, pairs = factors(THREE)
        pairs.append("x")
        self.assertEqual(factors(THREE), (1, [(THREE, 1)]))

    def test_nothing_handed_in_is_changed(self):
        polys, rows = [THREE, (), SQUARE_2], spans(THREE)
        pieces = region(("side", "<", THREE)).pieces()
        before = copy.deepcopy((polys, rows))
        cells(polys), sign_rows(polys), spans_hold(THREE, rows), chain_holds(SQUARE_2, polys)
        self.assertEqual((polys, rows), before)
        self.assertEqual(len(pieces), 2)

    def test_lists_handed_in_are_not_kept(self):
        polys = [THREE]
        found = cells(polys)
        polys.append(SQUARE_2)
        self.assertEqual(len(found), 3)

    def test_whatever_was_told_may_be_handed_in(self):
        real = root((-GREAT, 0, 0, GREAT - 1)).plus(square_root(GREAT + 1))
        again = root(real.poly, real.place)
        self.assertEqual(real, again)
        low, high = real.span(narrow=10 ** 9)
        self.assertEqual((real.side(number(*low)), real.side(number(*high))), (1, -1))
        self.assertTrue(number(*simplest(low, high)).side(number(*low)) > 0)
        self.assertEqual(len(region(("side", "<", real.poly)).pieces()), 1)
        sheet = Sheet()
        sheet.put("a", ("root", real.poly, real.place))
        self.assertEqual(sheet.value("a"), real)
        self.assertEqual(write_poly(real.poly), str(real).split(" ")[2])

    def test_a_truth_is_no_whole_number(self):
        refused(self, errors.NoRatio, number, True)
        refused(self, errors.NoRoot, root, SQUARE_2, False)
        refused(self, errors.NoPoly, roots, (True, 1))
        self.assertIs(is_tree(("number", True, 1)), False)
        self.assertIs(is_tree(("nth", True, TWO)), False)
        self.assertIs(is_formula(("side", "<", (0, True))), False)
        self.assertIs(Field(number(1)).is_own(((1, True),)), False)

    def test_a_desk_from_end_to_end(self):
        rows = ["put a (root 1 x^2-2)", "put b (plus a (nth 3 2))", "tell b", "near b 1000000", "side a b", "between a b"]
        answers = [[desk.ask(row) for row in rows] for desk in (Desk(), Desk())]
        self.assertEqual(answers[0], answers[1])
        self.assertEqual(answers[0][2:], ["root 1 x^6-6x^4-4x^3+12x^2-24x-4", "1337067/500000", "less", "2"])


if __name__ == "__main__":
    unittest.main()
