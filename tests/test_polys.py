"""[5] and [6], and [2] where it touches polynomials."""

import copy
import unittest
from fractions import Fraction

from things import GREAT, NO_POLYS, NO_RATIOS, seeded, slow_common, slow_division, slow_product, some_poly

from trueroots import polys
from trueroots.errors import NoPoly, NoRatio
from trueroots.polys import common, is_poly, layers, plain, poly_plus, poly_times, quotient, resultant, value_at

ONE_ASKED = [plain, layers]
TWO_ASKED = [poly_plus, poly_times, quotient, common, resultant]


class IsPoly(unittest.TestCase):
    def test_what_is_one(self):
        for thing in [(), (1,), (-1,), (0, 1), (5, 0, -3), (1,) * 13, (0,) * 12 + (1,), (GREAT,) * 13, (-GREAT, GREAT),
                      (GREAT ** 3, -GREAT ** 5)]:
            self.assertIs(is_poly(thing), True, thing)

    def test_what_is_none(self):
        for thing in NO_POLYS:
            self.assertIs(is_poly(thing), False, thing)

    def test_lengths_13_and_14(self):
        self.assertIs(is_poly((7,) * 13), True)
        self.assertIs(is_poly((7,) * 14), False)
        self.assertEqual(polys.MOST_DEGREE, 12)
        self.assertIs(type(polys.MOST_DEGREE), int)

    def test_truths_among_the_numbers(self):
        for truth in [True, False]:
            for at in range(4):
                thing = [3, 4, 5, 6]
                thing[at] = truth
                self.assertIs(is_poly(tuple(thing)), False)

    def test_what_is_looked_at_is_not_changed(self):
        for thing in NO_POLYS:
            before = copy.deepcopy(thing)
            is_poly(thing)
            self.assertEqual(thing, before)


class Refusals(unittest.TestCase):
    def refused(self, ask, *handed):
        before = copy.deepcopy(handed)
        with self.assertRaises(NoPoly) as caught:
            ask(*handed)
        self.assertIs(type(caught.exception), NoPoly)
        self.assertEqual(handed, before)

    def test_what_is_no_polynomial(self):
        for thing in NO_POLYS:
            for ask in ONE_ASKED:
                self.refused(ask, thing)
            for ask in TWO_ASKED:
                for good in [(), (5,), (1, 2)]:
                    self.refused(ask, thing, good)
                    self.refused(ask, good, thing)
                self.refused(ask, thing, thing)
            self.refused(value_at, thing, (1, 2))

    def test_no_poly_goes_ahead_of_no_ratio(self):
        for poly in NO_POLYS:
            for number in [None, (2, 4), "x", [], (1, 0)]:
                self.refused(value_at, poly, number)

    def test_a_product_that_is_too_long_is_no_polynomial(self):
        longer = poly_times((1,) * 13, (1, 1))
        self.refused(plain, longer)
        self.refused(poly_plus, longer, (1,))
        self.refused(poly_times, (1,), longer)

    def test_nought_where_that_is_told(self):
        self.refused(layers, ())
        for one in [(), (1,), (1, 2)]:
            self.refused(quotient, one, ())

    def test_nought_where_that_is_not_told(self):
        self.assertEqual(plain(()), ())
        self.assertEqual(value_at((), (1, 2)), (0, 1))
        for other in [(), (3,), (1, 2)]:
            self.assertEqual(resultant((), other), 0)
            self.assertEqual(resultant(other, ()), 0)


class Sum(unittest.TestCase):
    def test_known_ones(self):
        self.assertEqual(poly_plus((1, 2), (3, 4, 5)), (4, 6, 5))
        self.assertEqual(poly_plus((3, 4, 5), (1, 2)), (4, 6, 5))
        self.assertEqual(poly_plus((0, 1), ()), (0, 1))
        self.assertEqual(poly_plus((), (0, 1)), (0, 1))
        self.assertEqual(poly_plus((), ()), ())

    def test_where_the_last_numbers_cancel(self):
        self.assertEqual(poly_plus((1, 2, 3), (4, 5, -3)), (5, 7))
        self.assertEqual(poly_plus((1, 2, 3), (4, -2, -3)), (5,))
        self.assertEqual(poly_plus((1, 2, 3), (-1, 5, -3)), (0, 7))
        self.assertEqual(poly_plus((1, 2, 3), (-1, -2, -3)), ())
        self.assertEqual(poly_plus((0, 0, 3), (0, 0, -3)), ())
        self.assertEqual(poly_plus((5,), (-5,)), ())
        self.assertEqual(poly_plus((1,) * 13, (-1,) * 13), ())

    def test_great_numbers(self):
        self.assertEqual(poly_plus((GREAT, 1, GREAT), (1, -1, 1 - GREAT)), (GREAT + 1, 0, 1))
        self.assertEqual(poly_plus((GREAT,) * 13, (GREAT,) * 13), (2 * GREAT,) * 13)

    def test_values_add_up(self):
        source = seeded("sum")
        for turn in range(200):
            one = some_poly(source, source.randint(0, 12), 4)
            other = some_poly(source, source.randint(0, 12), 4)
            told = poly_plus(one, other)
            self.assertTrue(is_poly(told))
            for number in range(13):
                self.assertEqual(value_of(told, number), value_of(one, number) + value_of(other, number))


def value_of(poly, number):
    """The value at a number, as a Fraction."""
    return sum([Fraction(part) * number ** at for at, part in enumerate(poly)], Fraction(0))


class Product(unittest.TestCase):
    def test_known_ones(self):
        self.assertEqual(poly_times((1, 1), (-1, 1)), (-1, 0, 1))
        self.assertEqual(poly_times((2,), (3, 4)), (6, 8))
        self.assertEqual(poly_times((0, 1), (0, 0, 2)), (0, 0, 0, 2))

    def test_with_nought(self):
        self.assertEqual(poly_times((), (1, 2)), ())
        self.assertEqual(poly_times((1, 2), ()), ())
        self.assertEqual(poly_times((1,) * 13, ()), ())
        self.assertEqual(poly_times((), ()), ())

    def test_two_of_degree_12(self):
        told = poly_times((1,) * 13, (1,) * 13)
        self.assertEqual(told, tuple(list(range(1, 14)) + list(range(12, 0, -1))))
        self.assertIs(type(told), tuple)
        told = poly_times((GREAT,) * 13, (-GREAT,) * 13)
        self.assertEqual(told[0], -10 ** 400)
        self.assertEqual(told[12], -13 * 10 ** 400)
        self.assertEqual(len(told), 25)

    def test_any(self):
        source = seeded("product")
        for bound in [3, 10 ** 6, GREAT]:
            for turn in range(60):
                one = some_poly(source, source.randint(0, 12), bound)
                other = some_poly(source, source.randint(0, 12), bound)
                self.assertEqual(poly_times(one, other), slow_product(one, other))


class ValueAt(unittest.TestCase):
    def test_known_ones(self):
        self.assertEqual(value_at((-2, 0, 1), (3, 2)), (1, 4))
        self.assertEqual(value_at((1, 2, 3), (2, 1)), (17, 1))
        self.assertEqual(value_at((0, 4), (-1, 2)), (-2, 1))
        self.assertEqual(value_at((-1, 2), (1, 2)), (0, 1))
        self.assertEqual(value_at((7,), (22, 7)), (7, 1))

    def test_at_0(self):
        self.assertEqual(value_at((5, 6, 7), (0, 1)), (5, 1))
        self.assertEqual(value_at((0, 6, 7), (0, 1)), (0, 1))

    def test_of_nought(self):
        for number in [(0, 1), (1, 2), (-GREAT, 3)]:
            self.assertEqual(value_at((), number), (0, 1))

    def test_what_is_no_fraction(self):
        for number in NO_RATIOS:
            for poly in [(), (1,), (1, 2)]:
                with self.assertRaises(NoRatio) as caught:
                    value_at(poly, number)
                self.assertIs(type(caught.exception), NoRatio)

    def test_any(self):
        source = seeded("value")
        for bound in [5, 10 ** 15, GREAT]:
            for turn in range(60):
                poly = some_poly(source, source.randint(0, 12), bound)
                number = Fraction(source.randint(-bound, bound), source.randint(1, bound))
                due = value_of(poly, number)
                told = value_at(poly, (number.numerator, number.denominator))
                self.assertEqual(told, (due.numerator, due.denominator))
                self.assertIs(type(told), tuple)


class Plain(unittest.TestCase):
    def test_known_ones(self):
        self.assertEqual(plain((2, 4, 6)), (1, 2, 3))
        self.assertEqual(plain((1, 2, 3)), (1, 2, 3))
        self.assertEqual(plain((0, 0, 9)), (0, 0, 1))
        self.assertEqual(plain((6, 10, 15)), (6, 10, 15))
        self.assertEqual(plain((-6, 0, 4)), (-3, 0, 2))

    def test_a_last_number_below_0(self):
        self.assertEqual(plain((2, 4, -6)), (-1, -2, 3))
        self.assertEqual(plain((-1, -1)), (1, 1))
        self.assertEqual(plain((3, 0, -7)), (-3, 0, 7))

    def test_a_number_alone(self):
        for number in [1, -1, 2, -12, GREAT, -GREAT]:
            self.assertEqual(plain((number,)), (1,))

    def test_of_nought(self):
        self.assertEqual(plain(()), ())

    def test_great_numbers(self):
        self.assertEqual(plain((GREAT, -GREAT)), (-1, 1))
        self.assertEqual(plain((GREAT, 3 * GREAT // 5, -GREAT // 2)), (-10, -6, 5))
        self.assertEqual(plain((GREAT, GREAT - 1)), (GREAT, GREAT - 1))


class Quotient(unittest.TestCase):
    def test_where_it_comes_out(self):
        self.assertEqual(quotient((-1, 0, 1), (1, 1)), (-1, 1))
        self.assertEqual(quotient((2, 4, 6), (2,)), (1, 2, 3))
        self.assertEqual(quotient((2, 4, 6), (-1,)), (-2, -4, -6))
        self.assertEqual(quotient((2, 4, 6), (1, 2, 3)), (2,))
        self.assertEqual(quotient((0, 0, 0, 5), (0, 0, 1)), (0, 5))
        self.assertEqual(quotient((6,), (-3,)), (-2,))

    def test_where_it_would_want_fractions(self):
        self.assertIsNone(quotient((1, 2, 3), (2,)))
        self.assertIsNone(quotient((1, 2, 3), (2, 4, 6)))
        self.assertIsNone(quotient((-1, 0, 1), (2, 2)))
        self.assertIsNone(quotient((2, 3, 2), (2,)))
        self.assertIsNone(quotient((1, 2), (2,)))
        self.assertIsNone(quotient((1,), (2,)))

    def test_where_a_rest_is_left(self):
        self.assertIsNone(quotient((1, 0, 1), (1, 1)))
        self.assertIsNone(quotient((1,), (1, 1)))
        self.assertIsNone(quotient((0, 1), (0, 0, 1)))
        self.assertIsNone(quotient((1, 0, 0, 1), (0, 0, 1)))
        self.assertIsNone(quotient((0, 1, 0, 1), (0, 0, 1)))

    def test_of_nought(self):
        for other in [(1,), (-7,), (1, 2), (0, 1, 5), (1,) * 13]:
            self.assertEqual(quotient((), other), ())

    def test_any(self):
        source = seeded("quotient")
        for turn in range(400):
            one = some_poly(source, source.randint(0, 4), 3)
            other = some_poly(source, source.randint(0, 3), 2)
            numbers, rest = slow_division(one, other)
            due = None
            if not rest and all([number.denominator == 1 for number in numbers]):
                due = tuple([int(number) for number in numbers])
            self.assertEqual(quotient(one, other), due, (one, other))

    def test_products(self):
        source = seeded("undone")
        for bound in [5, GREAT]:
            for turn in range(60):
                degree = source.randint(0, 12)
                one = some_poly(source, degree, bound)
                other = some_poly(source, 12 - degree, bound)
                whole = slow_product(one, other)
                self.assertEqual(quotient(whole, other), one)
                self.assertEqual(quotient(whole, one), other)
                if degree < 12:
                    self.assertIsNone(quotient((whole[0] + 1,) + whole[1:], other))

    def test_numbers_are_whole(self):
        self.assertEqual([type(number) for number in quotient((4, 6), (2,))], [int, int])


class Common(unittest.TestCase):
    def both(self, one, other, due):
        self.assertEqual(common(one, other), due)
        self.assertEqual(common(other, one), due)

    def test_a_part_in_common(self):
        self.both((-1, 0, 1), (1, 2, 1), (1, 1))
        self.both((-1, 0, 1), (2, 2), (1, 1))
        self.both((0, 0, 5), (0, 7), (0, 1))
        self.both((-2, -2), (3, 3), (1, 1))
        self.both(slow_product((1, 2), (1, 0, 1)), slow_product((-3,), (1, 2), (5, 1)), (1, 2))

    def test_none_in_common(self):
        self.both((-2, 0, 1), (-3, 0, 1), (1,))
        self.both((1, 1), (2, 1), (1,))
        self.both((4,), (6,), (1,))
        self.both((4,), (6, 8), (1,))
        self.both((-1,), (-1,), (1,))

    def test_multiples(self):
        self.both((1, 2), (1, 2), (1, 2))
        self.both((2, 4), (3, 6), (1, 2))
        self.both((-2, -4), (-3, -6), (1, 2))
        self.both((1, 2), slow_product((1, 2), (1, 2), (7, 1)), (1, 2))

    def test_with_nought(self):
        self.both((), (4, 2), (2, 1))
        self.both((), (4, -2), (-2, 1))
        self.both((), (-9,), (1,))
        self.both((), (), ())

    def test_any(self):
        source = seeded("common")
        for bound in [3, 10 ** 15]:
            for turn in range(120):
                shared = some_poly(source, source.randint(0, 4), bound)
                one = slow_product(shared, some_poly(source, source.randint(0, 8), bound))
                other = slow_product(shared, some_poly(source, source.randint(0, 8), bound))
                self.both(one, other, slow_common(one, other))

    def test_great_gaps_between_degrees(self):
        self.both((-1,) + (0,) * 11 + (1,), (-1, 0, 0, 0, 0, 0, 0, 0, 1), (-1, 0, 0, 0, 1))
        self.both((-1,) + (0,) * 11 + (1,), (-2, 0, 0, 0, 0, 1), (1,))
        self.both((0,) * 12 + (3,), (1, 1), (1,))

    def test_great_numbers(self):
        source = seeded("great")
        for turn in range(5):
            shared = plain(some_poly(source, 3, GREAT))
            one = slow_product(shared, some_poly(source, 9, GREAT))
            other = slow_product(shared, some_poly(source, 7, GREAT))
            self.both(one, other, shared)
            self.both(some_poly(source, 12, GREAT), some_poly(source, 12, GREAT), (1,))
        self.both((GREAT, GREAT), (GREAT - 1, GREAT - 1), (1, 1))

    def test_the_same_asked_again(self):
        self.assertEqual([common((-1, 0, 1), (2, 2)) for turn in range(3)], [(1, 1)] * 3)


if __name__ == "__main__":
    unittest.main()
