"""[20] and [21]: texts, written and read back."""

import unittest

from nearby import GOLDEN, SQUARE_2, THREE, refused, sample, square_root
from things import GREAT, NO_POLYS, ODD_THINGS, exchanged, seeded, some_poly

from trueroots.errors import NoFormula, NoPoly, NoText, NoTree
from trueroots.reals import number, root, roots
from trueroots.regions import is_formula, region
from trueroots.sheets import is_tree
from trueroots.texts import read_formula, read_poly, read_real, read_tree, write_formula, write_pieces, write_poly
from trueroots.texts import write_tree

# Polynomials with their texts.
POLYS = [
    ((), "0"), ((5,), "5"), ((-5,), "-5"), ((0, 1), "x"), ((0, -1), "-x"), ((0, 2), "2x"), ((0, -12), "-12x"),
    ((1, 1), "x+1"), ((-1, 1), "x-1"), ((1, -1), "-x+1"), ((-1, -1), "-x-1"), ((0, 0, 1), "x^2"), ((0, 0, -1), "-x^2"),
    ((1, -2, 0, 1), "x^3-2x+1"), ((12,), "12"), ((-1, 1, -1, 1), "x^3-x^2+x-1"), ((1, 0, 0, 0, -7), "-7x^4+1"),
    ((0, 10, 0, -100), "-100x^3+10x"), ((-3,) + (0,) * 11 + (1,), "x^12-3"), ((0,) * 10 + (1, -1, 11), "11x^12-x^11+x^10"),
    ((1,) * 13, "x^12+x^11+x^10+x^9+x^8+x^7+x^6+x^5+x^4+x^3+x^2+x+1"), ((GREAT, -GREAT), "-1" + "0" * 200 + "x+1" + "0" * 200),
]
NO_POLY_TEXTS = [
    "", " ", "x ", " x", "x +1", "x+ 1", "x + 1", "1+x", "x+x^2", "x^2+1+x", "x+x", "2x+3x", "x-x", "1+1", "0x", "x+0",
    "0x^2+x", "x^2+0x+1", "-0", "+0", "00", "+5", "--5", "05", "-05", "5.0", "1x", "-1x", "+x", "x+-1", "x--1", "x++1",
    "x+", "x-", "-", "+", "x^", "x^1", "x^0", "x^02", "x^-1", "x^+2", "x^13", "x^99", "x^100000000000000000000", "X", "y",
    "2*x", "2 x", "x2", "x^2x", "xx", "x^2^2", "^2", "2^2", "x**2", "(x)", "(x+1)", "x+1)", "1/2", "x/2", "1/2x", "1e5",
    "1_000", "nought", "x^2-2 ", "x^2 -2", "x^2- 2", "02x", "x+01", "x^2\n", "0x1", "x^1x", "1x^2", "-1x^2", "x^2=0",
]


def figures(many):
    """A number of so many figures."""
    return int("7" + "3" * (many - 1))


class Polys(unittest.TestCase):
    def test_written(self):
        for poly, text in POLYS:
            self.assertEqual(write_poly(poly), text)

    def test_read(self):
        for poly, text in POLYS:
            self.assertEqual(read_poly(text), poly)
            self.assertIs(type(read_poly(text)), tuple)

    def test_read_back(self):
        source = seeded("texts")
        for turn in range(300):
            poly = some_poly(source, source.randint(0, 12), source.choice([1, 2, 12, GREAT]))
            poly = tuple([part if source.random() < 0.7 else 0 for part in poly[:-1]]) + poly[-1:]
            self.assertEqual(read_poly(write_poly(poly)), poly)

    def test_no_texts(self):
        for text in NO_POLY_TEXTS:
            refused(self, NoText, read_poly, text)

    def test_one_sign_more_or_less(self):
        # Whatever is read is written just so.
        signs = "0123456789x^+-/ ()"
        for poly, text in POLYS[:20]:
            others = [text[:at] + text[at + 1:] for at in range(len(text))]
            others += [text[:at] + sign + text[at:] for at in range(len(text) + 1) for sign in signs]
            others += [text[:at] + sign + text[at + 1:] for at in range(len(text)) for sign in signs]
            for other in others:
                try:
                    found = read_poly(other)
                except NoText:
                    continue
                self.assertEqual(write_poly(found), other)
                self.assertTrue(other == text or found != poly)

    def test_400_figures(self):
        for poly in [(figures(400),), (-figures(400),), (1, figures(400)), (0, 0, -figures(400), figures(400))]:
            self.assertEqual(read_poly(write_poly(poly)), poly)
        for poly in [(figures(401),), (-figures(401),), (1, figures(401)), (figures(401), 1), (0, 0, 10 ** 400)]:
            refused(self, NoText, read_poly, write_poly(poly))
        refused(self, NoText, read_poly, "x^" + "0" * 400 + "2")

    def test_written_are_numbers_of_any_length(self):
        for many in [401, 4299, 4300, 4301, 9000]:
            self.assertEqual(write_poly((1, 10 ** many)), "1" + "0" * many + "x+1")
            self.assertEqual(write_poly((-(10 ** many) - 5, 1)), "x-1" + "0" * (many - 1) + "5")

    def test_refusals(self):
        for thing in NO_POLYS:
            refused(self, NoPoly, write_poly, thing)

    def test_what_is_no_text(self):
        for thing in [None, 5, True, ["x"], ("x",), (0, 1)]:
            for ask in [read_poly, read_real, read_tree, read_formula]:
                refused(self, NoText, ask, thing)


class Reals(unittest.TestCase):
    def test_read_back(self):
        for real in sample():
            self.assertEqual(read_real(str(real)), real)
            self.assertEqual(str(read_real(str(real))), str(real))

    def test_by_hand(self):
        for text, real in [("0", number(0)), ("-3/4", number(-3, 4)), ("17", number(17)), ("1/2", number(1, 2)),
                           ("root 1 x^2-2", square_root(2)), ("root 0 x^2-2", square_root(2).opposite()),
                           ("root 2 x^3-3x+1", root(THREE, 2)), ("root 0 x^2-x-1", root(GOLDEN))]:
            self.assertEqual(read_real(text), real)
            self.assertEqual(str(real), text)

    def test_fractions_that_are_not_written_so(self):
        for text in ["", "-", "+1", "01", "-0", "0/1", "0/5", "5/1", "6/4", "-6/4", "3/-4", "-3/-4", "3/04", "3/+4", "3/0",
                     "0/0", "-0/3", "1/", "/2", "1/2/3", " 1", "1 ", "1 /2", "1/ 2", "1.5", "x", "a", "1_0", "(1)", "--1"]:
            refused(self, NoText, read_real, text)

    def test_polys_that_are_not_single(self):
        for text in ["root 0 x", "root 0 x-1", "root 0 2x-1", "root 0 5", "root 0 0", "root 0 x^2-4", "root 1 x^2-4",
                     "root 0 2x^2-4", "root 0 -x^2+2", "root 0 x^4-4", "root 0 x^4-5x^2+6", "root 0 x^3-x", "root 0 x^2",
                     "root 0 x^4-4x^2+4", "root 0 x^3-8", "root 1 4x^2-8"]:
            refused(self, NoText, read_real, text)

    def test_places_that_are_not_there(self):
        for text in ["root 2 x^2-2", "root 3 x^2-2", "root -1 x^2-2", "root 0 x^2+1", "root 1 x^3-2", "root 3 x^3-3x+1",
                     "root 100000000000000000000 x^2-2", "root -0 x^2-2", "root 00 x^2-2", "root 01 x^2-2"]:
            refused(self, NoText, read_real, text)

    def test_other_texts(self):
        for text in ["root", "root ", "root 0", "root 0 ", "root  0 x^2-2", "root 0  x^2-2", " root 0 x^2-2",
                     "root 0 x^2-2 ", "root 0 x^2 -2", "root x^2-2 0", "root 0 -2+x^2", "root 0 1x^2-2", "Root 0 x^2-2",
                     "root 0 x^2-2 1", "(root 0 x^2-2)", "root 0 x^2-02", "root0 x^2-2", "root 0 x^2-2x^2", "root a x^2-2",
                     "root 0 x^13-2", "root 1/2 x^2-2", "root 0 1/2"]:
            refused(self, NoText, read_real, text)

    def test_400_figures(self):
        for real in [number(figures(400)), number(-1, figures(400)), root((-figures(400), 1, 1))]:
            self.assertEqual(read_real(str(real)), real)
        for real in [number(figures(401)), number(1, figures(401)), root((-figures(401), 1, 1))]:
            refused(self, NoText, read_real, str(real))


TREES = [
    (("number", 6, 4), "6/4"), (("number", 5, 1), "5"), (("number", -3, 2), "-3/2"), (("number", 0, 1), "0"),
    (("number", 0, 7), "0/7"), (("number", -12, 4), "-12/4"), (("name", "a"), "a"), (("name", "plus"), "plus"),
    (("name", "root"), "root"), (("name", "abcdefgh"), "abcdefgh"), (("name", "x"), "x"),
    (("root", SQUARE_2, 0), "(root 0 x^2-2)"), (("root", (5,), 12), "(root 12 5)"), (("root", (0, 1), 3), "(root 3 x)"),
    (("root", (4, 0, -2), GREAT), "(root 1" + "0" * 200 + " -2x^2+4)"),
    (("plus", ("name", "a"), ("number", 2, 1)), "(plus a 2)"), (("minus", ("name", "a"), ("name", "a")), "(minus a a)"),
    (("times", ("number", 1, 2), ("name", "b")), "(times 1/2 b)"), (("over", ("name", "over"), ("name", "x")), "(over over x)"),
    (("nth", 2, ("name", "a")), "(nth 2 a)"), (("raised", 0, ("name", "a")), "(raised 0 a)"),
    (("nth", 12, ("raised", 12, ("root", THREE, 1))), "(nth 12 (raised 12 (root 1 x^3-3x+1)))"),
    (("plus", ("plus", ("plus", ("plus", ("name", "a"), ("name", "b")), ("name", "c")), ("name", "d")), ("number", 2, 2)),
     "(plus (plus (plus (plus a b) c) d) 2/2)"),
    (("over", ("number", 1, 1), ("nth", 3, ("times", ("name", "plus"), ("number", -1, 3)))), "(over 1 (nth 3 (times plus -1/3)))"),
]
NO_TREE_TEXTS = [
    "", " ", "()", "( )", "(", ")", ")(", "(a)", "((plus a 2))", "(plus a 2", "plus a 2)", "(plus a 2))", "((plus a 2)",
    "(plus a)", "(plus a 2 3)", "(plus)", "( plus a 2)", "(plus a 2 )", "(plus  a 2)", "(plus a  2)", " (plus a 2)",
    "(plus a 2) ", "(plus a 2)b", "(plus a 2) b", "a b", "a 2", "(plus a(nth 2 b))", "(plus (nth 2 b)a)", "(plus a 2)(plus a 2)",
    "5/1", "6/0", "6/-4", "06", "-0", "+6", "6/04", "6 /4", "1/", "/4", "A", "aB", "abcdefghi", "a1", "(nth 0 a)", "(nth 13 a)",
    "(raised 13 a)", "(raised -1 a)", "(nth a 2)", "(nth 02 a)", "(nth 2/1 a)", "(nth 2)", "(nth 2 a b)", "(root x^2-2 0)",
    "(root 0 0)", "(root -1 x^2-2)", "(root 00 x^2-2)", "(root 0 x^2 -2)", "(root 0 -2+x^2)", "(root 0 x^13)", "(root 0)",
    "(root 0 x^2-2 1)", "root 0 x^2-2", "(root 0 (x))", "(root (0) x)", "(name a)", "(number 1 2)", "(side < x)", "(not a)",
    "(all a b)", "(foo a b)", "(Plus a b)", "(a b c)", "((a) b c)", "((plus) a b)", "(plus () a)", "(plus a ())",
    "(plus (plus (plus (plus (plus a b) c) d) e) f)", "(nth 1 (nth 1 (nth 1 (nth 1 (nth 1 a)))))", "[plus a 2]", "(plus a, 2)",
    "(nth 2 " * 40 + "a" + ")" * 40, "(" * 900, ")" * 900, "(" * 900 + ")" * 900,
]

FORMULAS = [
    (("side", "<=", SQUARE_2), "(side <= x^2-2)"), (("side", "<", ()), "(side < 0)"), (("side", "=", (5,)), "(side = 5)"),
    (("side", "!=", (0, 1)), "(side != x)"), (("side", ">=", (0, -1)), "(side >= -x)"), (("side", ">", (1, 1)), "(side > x+1)"),
    (("not", ("side", "<", (0, 1))), "(not (side < x))"), (("all", ()), "(all)"), (("some", ()), "(some)"),
    (("all", (("side", "<", (0, 1)), ("some", ()))), "(all (side < x) (some))"),
    (("some", (("all", ()),) * 6), "(some (all) (all) (all) (all) (all) (all))"),
    (("not", ("not", ("not", ("not", ("not", ("side", "=", (0, 1))))))), "(not (not (not (not (not (side = x))))))"),
]
NO_FORMULA_TEXTS = [
    "", " ", "()", "(", ")", "x", "5", "a", "side < x", "(side < x", "side < x)", "(side < x))", "((side < x))", "(side <x)",
    "(side<x)", "(side < x )", "( side < x)", "(side  < x)", " (side < x)", "(side < x) ", "(side == x)", "(side => x)",
    "(side x <)", "(side < )", "(side <)", "(side)", "(side < x x)", "(side < 1+x)", "(side < x^13)", "(side < y)", "(side < 1/2)",
    "(side < (x))", "(side (<) x)", "(not)", "(not (side < x) (side < x))", "(not x)", "(not  (side < x))", "(not(side < x))",
    "(all )", "( all)", "(all x)", "(all (side < x)(side < x))", "(all  (side < x))", "(all (side < x) )", "(any)", "(All)", "all",
    "(some" + " (all)" * 7 + ")", "(not (not (not (not (not (not (side = x)))))))", "(plus a 2)", "(nth 2 a)", "(root 0 x)",
    "(all (plus a b))", "((all))", "((all) (some))", "(side < 00)", "(side < -0)", "[all]", "(all, (some))",
    "(not " * 60 + "(all)" + ")" * 60,
]


class Trees(unittest.TestCase):
    def test_written_and_read(self):
        for tree, text in TREES:
            self.assertTrue(is_tree(tree), tree)
            self.assertEqual(write_tree(tree), text)
            self.assertEqual(read_tree(text), tree)

    def test_no_texts(self):
        for text in NO_TREE_TEXTS + [text for tree, text in FORMULAS]:
            refused(self, NoText, read_tree, text)

    def test_read_back(self):
        source = seeded("trees")
        for turn in range(200):
            tree = some_tree(source, 5)
            text = write_tree(tree)
            self.assertEqual(read_tree(text), tree)
            self.assertNotIn("  ", text)

    def test_one_sign_more_or_less(self):
        for tree, text in TREES[:10] + TREES[11:13] + TREES[15:22]:
            for other in changed(text, "0a/ ()-+"):
                try:
                    found = read_tree(other)
                except NoText:
                    continue
                self.assertEqual(write_tree(found), other)
                self.assertTrue(other == text or found != tree)

    def test_400_figures(self):
        great, greater = figures(400), figures(401)
        for make in [lambda many: ("number", many, 1), lambda many: ("number", -many, 2), lambda many: ("number", 1, many),
                     lambda many: ("root", (0, many), 0), lambda many: ("root", (0, 1), many)]:
            self.assertEqual(read_tree(write_tree(make(great))), make(great))
            refused(self, NoText, read_tree, write_tree(make(greater)))
            self.assertIn("3" * 4000, write_tree(make(7 * 10 ** 5000 + int("3" * 4000))))

    def test_what_is_no_tree(self):
        for thing in ODD_THINGS + [0, (), "a", ("name", "A"), list(TREES[0][0]), FORMULAS[0][0]]:
            refused(self, NoTree, write_tree, thing)


class Formulas(unittest.TestCase):
    def test_written_and_read(self):
        for formula, text in FORMULAS:
            self.assertTrue(is_formula(formula))
            self.assertEqual(write_formula(formula), text)
            self.assertEqual(read_formula(text), formula)

    def test_no_texts(self):
        for text in NO_FORMULA_TEXTS + [text for tree, text in TREES]:
            refused(self, NoText, read_formula, text)

    def test_read_back(self):
        source = seeded("formula texts")
        for turn in range(200):
            formula = some_formula(source, 6)
            self.assertEqual(read_formula(write_formula(formula)), formula)

    def test_one_sign_more_or_less(self):
        for formula, text in FORMULAS[:10]:
            for other in changed(text, "<=!> ()x"):
                try:
                    found = read_formula(other)
                except NoText:
                    continue
                self.assertEqual(write_formula(found), other)
                self.assertTrue(other == text or found != formula)

    def test_400_figures(self):
        good, bad = ("side", "<", (figures(400),)), ("side", "<", (figures(401),))
        self.assertEqual(read_formula(write_formula(good)), good)
        refused(self, NoText, read_formula, write_formula(bad))

    def test_what_is_no_formula(self):
        for thing in ODD_THINGS + [0, (), "a", list(FORMULAS[0][0]), TREES[0][0]]:
            refused(self, NoFormula, write_formula, thing)
        for thing in exchanged(FORMULAS[9][0], None):
            refused(self, NoFormula, write_formula, thing)


def changed(text, signs):
    """All texts that have one sign more, less or exchanged."""
    found = [text[:at] + text[at + 1:] for at in range(len(text))]
    found += [text[:at] + sign + text[at:] for at in range(len(text) + 1) for sign in signs]
    return found + [text[:at] + sign + text[at + 1:] for at in range(len(text)) for sign in signs]


def some_tree(source, deep):
    kind = source.choice(["number", "root", "name"] + ["plus", "minus", "times", "over", "nth", "raised"] * (deep > 1))
    if kind == "number":
        return (kind, source.randint(-30, 30), source.randint(1, 4))
    if kind == "root":
        return (kind, some_poly(source, source.randint(0, 5), 4), source.randint(0, 5))
    if kind == "name":
        return (kind, source.choice(["a", "plus", "root", "zz", "number", "x"]))
    if kind in ("nth", "raised"):
        return (kind, source.randint(1, 12), some_tree(source, deep - 1))
    return (kind, some_tree(source, deep - 1), some_tree(source, deep - 1))


def some_formula(source, deep):
    kind = source.choice(["side", "not", "all", "some"]) if deep > 1 else "side"
    if kind == "side":
        return (kind, source.choice(["<", "<=", "=", "!=", ">=", ">"]), some_poly(source, source.randint(0, 4), 3))
    if kind == "not":
        return (kind, some_formula(source, deep - 1))
    return (kind, tuple([some_formula(source, deep - 1) for part in range(source.randint(0, 3))]))


class Pieces(unittest.TestCase):
    def test_by_hand(self):
        low, high = roots(SQUARE_2)
        three, half = number(3), number(1, 2)
        self.assertEqual(write_pieces([]), "nothing")
        self.assertEqual(write_pieces([(None, False, low, True)]), "(down, root 0 x^2-2]")
        self.assertEqual(write_pieces([(three, True, three, True)]), "[3, 3]")
        self.assertEqual(write_pieces([(half, False, None, False)]), "(1/2, up)")
        self.assertEqual(write_pieces([(None, False, None, False)]), "(down, up)")
        self.assertEqual(write_pieces([(half, True, high, False)]), "[1/2, root 1 x^2-2)")
        self.assertEqual(write_pieces([(None, False, low, False), (low, False, half, True), (three, True, None, False)]),
                         "(down, root 0 x^2-2) (root 0 x^2-2, 1/2] [3, up)")

    def test_any_such_tuples_in_their_order(self):
        three, half = number(3), number(1, 2)
        piece = (half, False, three, True)
        self.assertEqual(write_pieces([(three, True, three, True), piece, piece]), "[3, 3] (1/2, 3] (1/2, 3]")

    def test_of_regions(self):
        for text, due in [("(side <= x^2-2)", "[root 0 x^2-2, root 1 x^2-2]"), ("(all)", "(down, up)"),
                          ("(some)", "nothing"), ("(side != x)", "(down, 0) (0, up)"), ("(side = x^2-1)", "[-1, -1] [1, 1]"),
                          ("(side > 2x-1)", "(1/2, up)"), ("(side >= -x+3)", "(down, 3]")]:
            self.assertEqual(write_pieces(region(read_formula(text)).pieces()), due)

    def test_what_is_handed_in_stays(self):
        pieces = region(("side", "<", SQUARE_2)).pieces()
        before = list(pieces)
        write_pieces(pieces)
        self.assertEqual(pieces, before)


if __name__ == "__main__":
    unittest.main()
