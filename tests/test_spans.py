"""[15]: between, spans and spans_hold."""

import unittest
from fractions import Fraction

from nearby import CUBE_2, GOLDEN, QUARTIC, SQUARE_2, SQUARE_3, THREE, refused, sample, slow_roots, square_root
from nearby import NEARNESS, side_at, worth
from things import GREAT, NO_POLYS, ODD_THINGS, from_roots, nested, pair_of, seeded, slow_product, some_poly

from trueroots.errors import NoPoly, NothingBetween
from trueroots.ratios import is_ratio
from trueroots.reals import between, number, root, roots, spans, spans_hold

HALF = Fraction(1, 2)


def told(fraction):
    return Fraction(fraction[0], fraction[1])


def whole(fraction):
    return number(*pair_of(fraction))


def slow_between(low, high):
    """The simplest fraction strictly between two fractions of Python's, by trying all bottoms."""
    bottom = 1
    while True:
        first, last = (low * bottom).__floor__() + 1, (high * bottom).__ceil__() - 1
        if first <= last:
            return pair_of(Fraction(min(max(first, 0), last), bottom))
        bottom += 1


class Between(unittest.TestCase):
    def test_all_pairs(self):
        reals = sample()
        for one in reals:
            for other in reals:
                if worth(one) + NEARNESS < worth(other):
                    found = between(one, other)
                    self.assertTrue(is_ratio(found))
                    self.assertEqual((one.side(number(*found)), other.side(number(*found))), (-1, 1))
                    self.assertEqual(found, slow_between(worth(one), worth(other)), (str(one), str(other)))
                else:
                    refused(self, NothingBetween, between, one, other)

    def test_fractions(self):
        fractions = [Fraction(top, bottom) for top in range(-5, 6) for bottom in (1, 2, 3, 7)]
        for one in fractions:
            for other in fractions:
                if one < other:
                    self.assertEqual(between(whole(one), whole(other)), slow_between(one, other))
                else:
                    refused(self, NothingBetween, between, whole(one), whole(other))

    def test_by_hand(self):
        two, three = square_root(2), square_root(3)
        self.assertEqual(between(two, three), (3, 2))
        self.assertEqual(between(three.opposite(), two.opposite()), (-3, 2))
        self.assertEqual(between(two.opposite(), three), (0, 1))
        self.assertEqual(between(number(0), two), (1, 1))
        self.assertEqual(between(number(0), number(1)), (1, 2))
        self.assertEqual(between(number(-1), number(0)), (-1, 2))
        self.assertEqual(between(number(1), two), (4, 3))
        self.assertEqual(between(number(1), square_root(5)), (2, 1))
        self.assertEqual(between(two, number(2)), (3, 2))
        self.assertEqual(between(number(3), number(GREAT)), (4, 1))
        self.assertEqual(between(number(-GREAT), number(-3)), (-4, 1))
        self.assertEqual(between(number(-GREAT), square_root(7).opposite()), (-3, 1))

    def test_near_each_other(self):
        two = square_root(2)
        # The convergents of the square root of 2 are the simplest fractions so near to it.
        one, other = Fraction(1), Fraction(3, 2)
        for turn in range(12):
            low, high = min(one, other), max(one, other)
            after = Fraction(other.numerator + 2 * other.denominator, other.numerator + other.denominator)
            self.assertEqual(between(whole(low), two), slow_between(low, worth(two)))
            self.assertEqual(between(two, whole(high)), slow_between(worth(two), high))
            one, other = other, after

    def test_very_near_each_other(self):
        two = square_root(2)
        for scale in [10 ** 40, 10 ** 199]:
            close = root((-2 * scale - 1, 0, scale), 1)
            top, bottom = between(two, close)
            self.assertEqual((two.side(number(top, bottom)), close.side(number(top, bottom))), (-1, 1))
            # The nearest fractions of lesser bottoms on both sides lie outside: so no simpler one lies between.
            by = pow(top, -1, bottom)
            below, above = Fraction((top * by - 1) // bottom, by), Fraction((top * -by + 1) // bottom + top, bottom - by)
            self.assertTrue(below < Fraction(top, bottom) < above)
            self.assertEqual((two.side(whole(below)), close.side(whole(above))), (1, -1))
            self.assertEqual(between(close.opposite(), two.opposite()), (-top, bottom))

    def test_ends_at_the_simplest_one_itself(self):
        # The simplest one of a wider stretch is an end here, and so is none.
        self.assertEqual(between(number(1), number(2)), (3, 2))
        self.assertEqual(between(number(0), root(CUBE_2)), (1, 1))
        self.assertEqual(between(number(1), root(CUBE_2)), (5, 4))
        self.assertEqual(between(number(1, 2), square_root(2).over(number(2))), (2, 3))

    def test_the_first_is_not_less(self):
        two = square_root(2)
        for one, other in [(two, two), (two, two.opposite()), (number(1), number(1)), (number(2), two),
                           (two, number(1)), (square_root(8).over(number(2)), two)]:
            refused(self, NothingBetween, between, one, other)


class Spans(unittest.TestCase):
    def held(self, poly):
        found = spans(poly)
        self.assertIs(type(found), list)
        due = slow_roots(poly)
        reals = roots(poly)
        self.assertEqual(len(found), len(due))
        for at, row in enumerate(found):
            self.assertIs(type(row), tuple)
            low, high = row
            self.assertTrue(is_ratio(low) and is_ratio(high))
            if len(reals[at].poly) == 2:
                self.assertEqual(row, ((-reals[at].poly[0], reals[at].poly[1]),) * 2)
            else:
                self.assertLess(side_at(reals[at].poly, told(low)) * side_at(reals[at].poly, told(high)), 0)
                inside = [each for each in due if told(low) < each + NEARNESS and each < told(high)]
                self.assertEqual(inside, [due[at]])
            if at > 0:
                self.assertGreaterEqual(told(low), told(found[at - 1][1]))
        self.assertTrue(spans_hold(poly, found))

    def test_by_hand(self):
        self.assertEqual(spans((5,)), [])
        self.assertEqual(spans((1, 0, 1)), [])
        self.assertEqual(spans((-1, 2)), [((1, 2), (1, 2))])
        self.assertEqual(spans(from_roots(3, -1, -1, HALF)), [((-1, 1),) * 2, ((1, 2),) * 2, ((3, 1),) * 2])

    def test_all_kinds(self):
        for poly in [SQUARE_2, THREE, QUARTIC, GOLDEN, slow_product(SQUARE_2, SQUARE_3, GOLDEN, from_roots(0, 1)),
                     slow_product(SQUARE_2, SQUARE_2, THREE), (-5,) + (0,) * 11 + (1,), (-GREAT, 0, 1)]:
            self.held(poly)

    def test_roots_near_each_other(self):
        near = Fraction(141421356237, 10 ** 11)
        self.held(slow_product(SQUARE_2, from_roots(near, near + Fraction(1, 10 ** 11))))
        self.held(slow_product(SQUARE_2, (-2 * 10 ** 30 - 1, 0, 10 ** 30)))
        # A root that is no fraction beside one that is, on either side.
        self.held(slow_product((-1, 0, 10 ** 20 - 1), from_roots(0, Fraction(1, 10 ** 10))))
        self.held(slow_product(THREE, from_roots(*range(-5, 4))))

    def test_against_halving(self):
        source = seeded("spans")
        for turn in range(40):
            self.held(some_poly(source, source.randint(0, 12), source.choice([1, 3, 50])))
        for turn in range(20):
            self.held(slow_product(*[some_poly(source, source.randint(1, 3), 3) for part in range(4)]))

    def test_a_new_list_each_time(self):
        found = spans(SQUARE_2)
        before = list(found)
        found.clear()
        self.assertEqual(spans(SQUARE_2), before)

    def test_refusals(self):
        for thing in NO_POLYS + [()]:
            refused(self, NoPoly, spans, thing)


class SpansHold(unittest.TestCase):
    def yes(self, poly, rows):
        self.assertIs(spans_hold(poly, rows), True, rows)

    def no(self, poly, rows):
        self.assertIs(spans_hold(poly, rows), False, rows)

    def test_wider_and_touching(self):
        self.yes(SQUARE_2, [((-2, 1), (0, 1)), ((0, 1), (2, 1))])
        self.yes(SQUARE_2, [((-GREAT, 1), (1, 1)), ((1, 1), (GREAT, 3))])
        self.yes(SQUARE_2, [((-3, 2), (-7, 5)), ((7, 5), (3, 2))])
        self.yes((1, 0, 1), [])
        self.yes((7,), [])

    def test_a_fraction_as_a_root_between(self):
        poly = from_roots(0, 1)
        self.yes(poly, [((0, 1), (0, 1)), ((1, 1), (1, 1))])
        self.yes(poly, [((-1, 1), (1, 2)), ((1, 2), (2, 1))])
        self.yes(poly, [((-1, 1), (1, 1)), ((1, 1), (1, 1))])
        self.yes(poly, [((0, 1), (0, 1)), ((0, 1), (2, 1))])
        self.yes(slow_product(poly, poly), [((-1, 1), (1, 1)), ((1, 1), (1, 1))])

    def test_too_many_or_too_few_between(self):
        poly = from_roots(0, 1)
        self.no(poly, [((-1, 1), (2, 1)), ((2, 1), (3, 1))])
        self.no(poly, [((-1, 1), (2, 1))])
        self.no(poly, [((-1, 1), (0, 1)), ((1, 1), (1, 1))])
        self.no(poly, [((0, 1), (1, 1)), ((1, 1), (1, 1))])
        self.no(poly, [((0, 1), (0, 1)), ((1, 1), (2, 1))])
        self.no(SQUARE_2, [((-2, 1), (2, 1)), ((2, 1), (3, 1))])
        self.no(SQUARE_2, [((-1, 1), (1, 1)), ((1, 1), (2, 1))])

    def test_a_fraction_twice_that_is_no_root(self):
        self.no(SQUARE_2, [((-7, 5), (-7, 5)), ((1, 1), (2, 1))])
        self.no(from_roots(0), [((1, 1), (1, 1))])

    def test_the_first_is_greater(self):
        self.no(SQUARE_2, [((-1, 1), (-2, 1)), ((1, 1), (2, 1))])
        self.no(from_roots(0), [((1, 1), (-1, 1))])

    def test_a_high_that_is_greater_than_the_next_low(self):
        self.no(SQUARE_2, [((-2, 1), (1, 2)), ((0, 1), (2, 1))])
        self.no(SQUARE_2, [((0, 1), (2, 1)), ((-2, 1), (0, 1))])
        self.no(from_roots(0, 1), [((1, 1), (1, 1)), ((0, 1), (0, 1))])

    def test_the_same_fraction_twice_beside_each_other(self):
        self.no(from_roots(0, 1), [((0, 1), (0, 1)), ((0, 1), (0, 1))])
        self.no(from_roots(0, 0, 1), [((0, 1), (0, 1)), ((0, 1), (0, 1))])
        self.no(from_roots(0, 0), [((0, 1), (0, 1)), ((0, 1), (0, 1))])

    def test_how_many_there_are(self):
        rows = spans(THREE)
        self.yes(THREE, rows)
        for at in range(3):
            self.no(THREE, rows[:at] + rows[at + 1:])
            self.no(THREE, rows[:at + 1] + rows[at:])
        self.no(THREE, [])
        self.no((1, 0, 1), [((0, 1), (1, 1))])
        self.no((1,), [((0, 1), (0, 1))])
        self.no(SQUARE_2, spans(SQUARE_3)[:1])

    def test_things_that_are_no_list(self):
        rows = spans(SQUARE_2)
        self.no(SQUARE_2, tuple(rows))
        for thing in ODD_THINGS + [0, 1, (), "", ((0, 1), (1, 1)), nested(24, list)]:
            self.no(SQUARE_2, thing)
        self.no((1, 0, 1), ())
        self.no((1, 0, 1), None)

    def test_something_else_in_each_place(self):
        rows = spans(SQUARE_2)
        others = ODD_THINGS + [0, 1, (), (0, 1), (2, 4), (1, 0), (1, -1)]
        for at in range(2):
            for thing in others:
                self.no(SQUARE_2, rows[:at] + [thing] + rows[at + 1:])
            for by in range(2):
                for thing in ODD_THINGS + [0, 1, (), (2, 4), (1, 0), (1, -1), (0, 2)]:
                    row = rows[at][:by] + (thing,) + rows[at][by + 1:]
                    self.no(SQUARE_2, rows[:at] + [row] + rows[at + 1:])
                for part in range(2):
                    for thing in ODD_THINGS + [(), (1, 1)]:
                        end = rows[at][by][:part] + (thing,) + rows[at][by][part + 1:]
                        row = rows[at][:by] + (end,) + rows[at][by + 1:]
                        self.no(SQUARE_2, rows[:at] + [row] + rows[at + 1:])
            self.no(SQUARE_2, rows[:at] + [list(rows[at])] + rows[at + 1:])
            self.no(SQUARE_2, rows[:at] + [rows[at] + ((5, 1),)] + rows[at + 1:])
            self.no(SQUARE_2, rows[:at] + [rows[at][:1]] + rows[at + 1:])

    def test_of_another_polynomial(self):
        self.no(SQUARE_3, [((-3, 2), (-1, 1)), ((1, 1), (3, 2))])
        self.yes(SQUARE_2, [((-3, 2), (-1, 1)), ((1, 1), (3, 2))])

    def test_what_is_handed_in_stays(self):
        rows = spans(THREE)
        before = list(rows)
        spans_hold(THREE, rows)
        self.assertEqual(rows, before)

    def test_refusals(self):
        for thing in NO_POLYS + [()]:
            for rows in [[], None, [((0, 1), (0, 1))]]:
                refused(self, NoPoly, spans_hold, thing, rows)


if __name__ == "__main__":
    unittest.main()
