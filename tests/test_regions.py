"""[18] and [19]: formulas, their regions, and what is told of these."""

import copy
import unittest
from fractions import Fraction

from nearby import CUBE_2, GOLDEN, QUARTIC, SQUARE_2, SQUARE_3, THREE, refused, sample, side_at, square_root, worth
from things import GREAT, NO_POLYS, ODD_THINGS, exchanged, from_roots, pair_of, reshaped, seeded, slow_product
from things import some_poly

from trueroots.errors import NoFormula, NothingLeft
from trueroots.reals import Real, number, root
from trueroots.regions import Region, is_formula, region
from trueroots.signs import cells, sign_at

WORDS = ["<", "<=", "=", "!=", ">=", ">"]
X = (0, 1)
EVERYTHING, NOTHING = ("all", ()), ("some", ())


def side(word, poly):
    return ("side", word, poly)


def line_at(word, fraction):
    """A formula that holds a number against a fraction."""
    fraction = Fraction(fraction)
    return side(word, (-fraction.numerator, fraction.denominator))


def real_of(fraction):
    return number(*pair_of(fraction))


def held(word, sign):
    """Whether a word is true of a sign."""
    return {"<": sign < 0, "<=": sign <= 0, "=": sign == 0, "!=": sign != 0, ">=": sign >= 0, ">": sign > 0}[word]


def slow_true(formula, tell):
    """Whether a formula is true where tell tells the sign of each polynomial."""
    if formula[0] == "side":
        return held(formula[1], tell(formula[2]))
    if formula[0] == "not":
        return not slow_true(formula[1], tell)
    parts = [slow_true(part, tell) for part in formula[1]]
    return all(parts) if formula[0] == "all" else any(parts)


def polys_in(formula):
    if formula[0] == "side":
        return [formula[2]]
    inner = [formula[1]] if formula[0] == "not" else formula[1]
    return [poly for part in inner for poly in polys_in(part)]


def is_in(pieces, real):
    """Whether one of the pieces has a Real."""
    for low, first, high, last in pieces:
        above = low is None or real.side(low) > 0 or (first and real == low)
        below = high is None or real.side(high) < 0 or (last and real == high)
        if above and below:
            return True
    return False


def some_formula(source, deep):
    """A formula of at most so many within one another."""
    kind = source.choice(["side", "side", "not", "all", "some"]) if deep > 1 else "side"
    if kind == "side":
        parts = [from_roots(0), from_roots(1), from_roots(-1, 1), SQUARE_2, from_roots(0, 0), SQUARE_3, (), (3,), (-2,),
                 (1, 0, 1), THREE, some_poly(source, source.randint(0, 3), 3)]
        return side(source.choice(WORDS), source.choice(parts))
    if kind == "not":
        return ("not", some_formula(source, deep - 1))
    return (kind, tuple([some_formula(source, deep - 1) for part in range(source.randint(0, 3))]))


def deep_formula(many):
    """So many formulas within one another."""
    formula = side("<", X)
    for turn in range(many - 1):
        formula = [("not", formula), ("all", (formula,)), ("some", (EVERYTHING, formula))][turn % 3]
    return formula


class IsFormula(unittest.TestCase):
    def yes(self, thing):
        self.assertIs(is_formula(thing), True, thing)
        self.assertIs(type(region(thing)), Region)

    def no(self, thing):
        self.assertIs(is_formula(thing), False, thing)
        refused(self, NoFormula, region, thing)

    def test_each_kind_and_word(self):
        for word in WORDS:
            for poly in [(), (5,), X, SQUARE_2, (1,) * 13, (GREAT, -GREAT)]:
                self.yes(side(word, poly))
        self.yes(("not", side("<", X)))
        for kind in ["all", "some"]:
            for many in range(7):
                self.yes((kind, (side("<", X),) * many))
            self.no((kind, (side("<", X),) * 7))
            self.no((kind, (side("<", X),) * 40))

    def test_six_within_one_another(self):
        for many in range(1, 7):
            self.yes(deep_formula(many))
        for many in [7, 8, 12]:
            self.no(deep_formula(many))
        nots = side("=", X)
        for turn in range(5):
            nots = ("not", nots)
        self.yes(nots)
        self.no(("not", nots))
        self.yes(("not", ("not", ("not", ("not", ("not", EVERYTHING))))))
        self.no(("not", ("not", ("not", ("not", ("not", ("not", EVERYTHING)))))))
        self.no(("some", (EVERYTHING, ("not", nots))))

    def test_words_that_are_none(self):
        for word in ["", "==", "<>", "=<", "=>", " <", "< ", "!", "side", "<=>", None, 0, True, ("<",), ["<"], b"<"]:
            self.no(side(word, X))
        for kind in ["Side", "sides", "", "and", "or", "any", None, 1, True, ["side"], ("side",)]:
            self.no((kind, "<", X))
            self.no((kind, EVERYTHING))
            self.no((kind, ()))

    def test_polynomials_that_are_none(self):
        for thing in NO_POLYS:
            self.no(side("<", thing))
            self.no(("all", (side("<", X), side("<", thing))))

    def test_one_thing_exchanged(self):
        formula = ("all", (side("<=", SQUARE_2), ("not", ("some", (side("!=", X), EVERYTHING)))))
        self.yes(formula)
        for other in [None, True, "x", "", [], ["side"], [1, 2], (None,), ("side",), ("side", "<"), ("not",), 1.5]:
            for thing in exchanged(formula, other):
                self.no(thing)
        for thing in reshaped(formula):
            self.no(thing)

    def test_things_of_all_kinds(self):
        for thing in ODD_THINGS + [0, 1, (), "side", ("side",), ("all",), ("not",), ("side", "<"), ("not", None), X]:
            self.no(thing)
            self.no(("not", thing))
            self.no(("all", thing)) if thing != () else self.yes(("all", thing))
            self.no(("all", (thing,)))
            self.no(("some", [side("<", X)]))


class Pieces(unittest.TestCase):
    def told(self, formula, due):
        found = region(formula)
        self.assertEqual(found.pieces(), due)
        self.assertEqual(len(found), len(due))
        for piece in found.pieces():
            self.assertIs(type(piece), tuple)
            low, first, high, last = piece
            for end in (low, high):
                self.assertTrue(end is None or isinstance(end, Real))
            self.assertIs(type(first), bool)
            self.assertIs(type(last), bool)

    def test_single_numbers(self):
        two = square_root(2)
        self.told(side("=", X), [(number(0), True, number(0), True)])
        self.told(side("=", SQUARE_2), [(two.opposite(), True, two.opposite(), True), (two, True, two, True)])
        self.told(side("<=", (0, 0, 1)), [(number(0), True, number(0), True)])

    def test_stretches(self):
        low, high = square_root(2).opposite(), square_root(2)
        self.told(side("<", SQUARE_2), [(low, False, high, False)])
        self.told(side("<=", SQUARE_2), [(low, True, high, True)])
        self.told(side(">", SQUARE_2), [(None, False, low, False), (high, False, None, False)])
        self.told(side(">=", SQUARE_2), [(None, False, low, True), (high, True, None, False)])
        self.told(side("!=", X), [(None, False, number(0), False), (number(0), False, None, False)])
        self.told(("all", (line_at(">=", 0), line_at("<", 1))), [(number(0), True, number(1), False)])
        self.told(("all", (line_at(">", 0), line_at("<=", 1))), [(number(0), False, number(1), True)])

    def test_touching_stretches_are_one(self):
        self.told(("some", (line_at("<", 0), line_at(">=", 0))), [(None, False, None, False)])
        self.told(("some", (line_at("<", 0), line_at("=", 0), line_at(">", 0))), [(None, False, None, False)])
        self.told(("some", (line_at("<", 0), line_at(">", 0))),
                  [(None, False, number(0), False), (number(0), False, None, False)])
        between = ("all", (line_at(">", 0), line_at("<", 2)))
        self.told(("some", (between, ("all", (line_at(">=", 2), line_at("<=", 3))))),
                  [(number(0), False, number(3), True)])
        self.told(("some", (between, line_at("=", 0))), [(number(0), True, number(2), False)])
        self.told(("all", (between, line_at("!=", 1))),
                  [(number(0), False, number(1), False), (number(1), False, number(2), False)])
        # Roots at which nothing changes are no ends.
        self.told(("all", (between, side(">=", from_roots(1, 1)))), [(number(0), False, number(2), False)])

    def test_nothing_and_everything(self):
        for formula in [NOTHING, side("<", (0, 0, 1)), side("=", (5,)), side("!=", ()), side("<", (1, 0, 1)),
                        ("not", EVERYTHING), ("all", (line_at("<", 0), line_at(">", 0))), side(">", ())]:
            self.told(formula, [])
        for formula in [EVERYTHING, side(">=", (0, 0, 1)), side("!=", (5,)), side("=", ()), side(">", (1, 0, 1)),
                        ("not", NOTHING), ("some", (side("<", SQUARE_2), side(">=", SQUARE_2))), side("<=", ())]:
            self.told(formula, [(None, False, None, False)])

    def test_against_the_truth(self):
        source = seeded("formulas")
        for turn in range(120):
            formula = some_formula(source, source.randint(1, 4))
            pieces = region(formula).pieces()
            found = cells([poly for poly in polys_in(formula)])
            near = [worth(real) for real in found]
            between = [(one + other) / 2 for one, other in zip(near, near[1:])]
            for stop in between + [near[0] - 1, near[-1] + 1] if near else [Fraction(0), Fraction(7)]:
                due = slow_true(formula, lambda poly: side_at(poly, stop))
                self.assertEqual(is_in(pieces, real_of(stop)), due, formula)
                self.assertEqual(region(formula).holds(real_of(stop)), due, formula)
            for real in found:
                due = slow_true(formula, lambda poly: sign_at(poly, real))
                self.assertEqual(is_in(pieces, real), due, formula)
                self.assertEqual(region(formula).holds(real), due, formula)
            self.apart(pieces)

    def apart(self, pieces):
        """The pieces are in order, and no two could be one."""
        for one, other in zip(pieces, pieces[1:]):
            gap = one[2].side(other[0])
            self.assertTrue(gap < 0 or (gap == 0 and not one[3] and not other[1]))
        for low, first, high, last in pieces:
            if low is not None and high is not None:
                self.assertTrue(low.side(high) < 0 or (low == high and first and last))

    def test_a_new_list_each_time(self):
        found = region(side("<", SQUARE_2))
        first = found.pieces()
        first.clear()
        self.assertEqual((len(found.pieces()), len(found)), (1, 1))
        self.assertIsNot(found.pieces(), found.pieces())


class Equal(unittest.TestCase):
    def test_made_in_other_ways(self):
        rows = [
            [side("<", SQUARE_2), ("not", side(">=", SQUARE_2)), side(">", (2, 0, -1)), side("<", (-6, 0, 3)),
             ("all", (side("<", SQUARE_2), EVERYTHING)), ("some", (side("<", SQUARE_2), NOTHING))],
            [NOTHING, side("<", (0, 0, 1)), ("not", EVERYTHING), side("=", (1, 0, 1))],
            [EVERYTHING, side("=", ()), ("some", (side("<", X), side(">=", X)))],
            [line_at("=", 0), side("=", (0, 0, 0, 5)), ("all", (side("<=", X), side(">=", X)))],
            [line_at("!=", 0), ("some", (side("<", X), side(">", X)))],
            [side("<=", SQUARE_2), ("some", (side("<", SQUARE_2), side("=", SQUARE_2)))],
        ]
        for at, row in enumerate(rows):
            for by, column in enumerate(rows):
                for one in row:
                    for other in column:
                        self.assertEqual(region(one) == region(other), at == by)
                        self.assertEqual(region(one) != region(other), at != by)

    def test_other_things(self):
        found = region(EVERYTHING)
        for thing in ODD_THINGS + [0, 1, EVERYTHING, found.pieces(), number(0)]:
            self.assertIs(found == thing, False)
            self.assertIs(found != thing, True)


class Told(unittest.TestCase):
    """[19]"""

    def formulas(self):
        source = seeded("told")
        return [some_formula(source, source.randint(1, 4)) for turn in range(60)]

    def test_holds_at_the_ends_and_close_by(self):
        two = square_root(2)
        gap = number(1, GREAT)
        for word in WORDS:
            found = region(side(word, SQUARE_2))
            for end in (two, two.opposite()):
                sign = end.sign()
                self.assertIs(found.holds(end), held(word, 0))
                self.assertIs(found.holds(end.plus(gap)), held(word, sign))
                self.assertIs(found.holds(end.minus(gap)), held(word, -sign))
            self.assertIs(found.holds(number(0)), held(word, -1))
            self.assertIs(found.holds(number(GREAT)), held(word, 1))
            self.assertIs(found.holds(root(THREE, 2)), held(word, 1))
        half = region(line_at("<", Fraction(1, 2)))
        self.assertEqual([half.holds(number(1, 2)), half.holds(number(4999, 10000)), half.holds(number(1, 3))],
                         [False, True, True])

    def test_holds_is_what_the_formula_tells(self):
        for formula in self.formulas():
            found = region(formula)
            for real in sample()[:14]:
                self.assertIs(found.holds(real), slow_true(formula, lambda poly: sign_at(poly, real)))

    def test_some(self):
        for formula in self.formulas() + [EVERYTHING, line_at("<", -5), line_at(">", 7), side("=", SQUARE_2),
                                          side("<", SQUARE_2), side("<", THREE), side("=", THREE),
                                          ("all", (side("<", SQUARE_3), side(">", SQUARE_2), line_at(">", 0))),
                                          ("all", (side(">", (1 - 2 * GREAT, 0, GREAT)), side("<", SQUARE_2)))]:
            found = region(formula)
            if found.pieces():
                one = found.some()
                self.assertIs(type(one), Real)
                self.assertTrue(slow_true(formula, lambda poly: sign_at(poly, one)), formula)
                self.assertEqual(found.some(), one)
            else:
                refused(self, NothingLeft, found.some)
        refused(self, NothingLeft, region(NOTHING).some)
        refused(self, NothingLeft, region(side("<", (0, 0, 1))).some)

    def test_least_and_most(self):
        two = square_root(2)
        for formula, least, most in [
                (NOTHING, None, None), (EVERYTHING, None, None), (side("<", SQUARE_2), None, None),
                (side("<=", SQUARE_2), two.opposite(), two), (side("=", X), number(0), number(0)),
                (line_at("<=", 5), None, number(5)), (line_at(">=", 5), number(5), None),
                (line_at("<", 5), None, None), (line_at(">", 5), None, None), (side(">=", SQUARE_2), None, None),
                (("all", (line_at(">=", 0), line_at("<", 1))), number(0), None),
                (("all", (line_at(">", 0), line_at("<=", 1))), None, number(1)),
                (("some", (line_at("=", -3), side("<", SQUARE_2))), number(-3), None),
                (("some", (line_at("=", 3), side("<", SQUARE_2))), None, number(3)),
                (("some", (line_at("=", 3), side("=", SQUARE_2))), two.opposite(), number(3))]:
            found = region(formula)
            self.assertEqual((found.least(), found.most()), (least, most), formula)

    def test_wholes(self):
        for formula in self.formulas():
            found = region(formula)
            for low, high in [(-4, 4), (0, 0), (1, 1), (-1, 2), (3, -3), (5, 4), (-40, 40)]:
                due = [whole for whole in range(low, high + 1) if found.holds(number(whole))]
                self.assertEqual(found.wholes(low, high), len(due), (formula, low, high))

    def test_wholes_with_far_bounds(self):
        far = 10 ** 15
        self.assertEqual(region(EVERYTHING).wholes(-far, far), 2 * far + 1)
        self.assertEqual(region(NOTHING).wholes(-far, far), 0)
        self.assertEqual(region(side("<", (-far * far, 0, 1))).wholes(-far, far), 2 * far - 1)
        self.assertEqual(region(side("<=", (-far * far, 0, 1))).wholes(-far, far), 2 * far + 1)
        self.assertEqual(region(side(">", (-far * far, 0, 1))).wholes(-far, far), 0)
        self.assertEqual(region(side("=", (-far * far, 0, 1))).wholes(-far, far), 2)
        self.assertEqual(region(side("<", (-2 * 10 ** 28, 0, 1))).wholes(-far, far), 2 * 141421356237309 + 1)
        self.assertEqual(region(side(">", SQUARE_2)).wholes(-far, far), 2 * far - 2)
        self.assertEqual(region(side("<", SQUARE_2)).wholes(0, far), 2)
        self.assertEqual(region(EVERYTHING).wholes(far, -far), 0)

    def test_wholes_at_ends(self):
        for first in ["<", "<="]:
            for last in ["<", "<="]:
                turned = {"<": ">", "<=": ">="}[first]
                found = region(("all", (line_at(turned, 2), line_at(last, 5))))
                self.assertEqual(found.wholes(-100, 100), 2 + (first == "<=") + (last == "<="))
                self.assertEqual(found.wholes(3, 4), 2)
                self.assertEqual(found.wholes(2, 2), int(first == "<="))
        half = region(("all", (line_at(">=", Fraction(1, 2)), line_at("<=", Fraction(7, 2)))))
        self.assertEqual(half.wholes(-9, 9), 3)
        self.assertEqual(region(side("=", (-1, 2))).wholes(-9, 9), 0)

    def test_both_either_rest_within(self):
        formulas = self.formulas()[:24] + [EVERYTHING, NOTHING, side("=", SQUARE_2), side("<", SQUARE_2)]
        source = seeded("both")
        for turn in range(120):
            one, other = source.choice(formulas), source.choice(formulas)
            left, right = region(one), region(other)
            before = copy.deepcopy((left, right))
            self.assertEqual(left.both(right).pieces(), region(("all", (one, other))).pieces())
            self.assertEqual(left.either(right).pieces(), region(("some", (one, other))).pieces())
            self.assertEqual(left.rest().pieces(), region(("not", one)).pieces())
            self.assertTrue(left.both(right) == right.both(left) == region(("all", (other, one))))
            self.assertTrue(left.rest().rest() == left)
            self.assertIs(left.within(right), len(region(("all", (one, ("not", other))))) == 0)
            self.assertEqual((left, right), before)
            for found in [left.both(right), left.either(right), left.rest()]:
                self.assertIs(type(found), Region)

    def test_within_by_hand(self):
        less, no_more, two = region(side("<", SQUARE_2)), region(side("<=", SQUARE_2)), region(side("=", SQUARE_2))
        self.assertEqual([less.within(no_more), no_more.within(less), less.within(less)], [True, False, True])
        self.assertEqual([two.within(no_more), two.within(less)], [True, False])
        everything, nothing = region(EVERYTHING), region(NOTHING)
        self.assertEqual([nothing.within(nothing), nothing.within(less), less.within(nothing)], [True, True, False])
        self.assertEqual([less.within(everything), everything.within(less), everything.within(everything)],
                         [True, False, True])
        self.assertTrue(less.either(two) == no_more)
        self.assertTrue(no_more.both(two.rest()) == less)
        self.assertTrue(region(side("<", SQUARE_2)).within(region(side("<", SQUARE_3))))

    def test_many_ends(self):
        poly = slow_product(SQUARE_2, SQUARE_3, GOLDEN, QUARTIC)
        found = region(("some", (side("<", poly), side("=", CUBE_2))))
        self.assertEqual(len(found.rest().either(found)), 1)
        self.assertTrue(found.either(found.rest()) == region(EVERYTHING))
        self.assertTrue(found.both(found.rest()) == region(NOTHING))


if __name__ == "__main__":
    unittest.main()
