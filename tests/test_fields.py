"""[16]: fields of reals, held against multiplying with fractions and against determinants."""

import copy
import unittest
from fractions import Fraction

from nearby import CUBE_2, GOLDEN, QUARTIC, SQUARE_2, THREE, is_near, refused, square_root, worth
from things import GREAT, NO_POLYS, NO_RATIOS, ODD_THINGS, determinant, pair_of, seeded, slow_division, some_poly

from trueroots.errors import NoDivision, NoElement, NoPoly
from trueroots.factors import is_single
from trueroots.fields import Field, value_of
from trueroots.ratios import is_ratio
from trueroots.reals import Real, number, root, roots

HALF = Fraction(1, 2)
TWELVE = (-2,) + (0,) * 11 + (1,)
# Single polynomials of all degrees up to 6, of 8 and 12, some that do not end in 1.
SINGLES = [(3, 2), (0, 1), SQUARE_2, GOLDEN, (-7, 3, 5), CUBE_2, THREE, (-1, -2, 0, 3), QUARTIC, (1, 0, -10, 0, 1),
           (-1, -1, 0, 0, 0, 1), (-7, 0, 0, 0, 0, 0, 2), (5, -1, 0, 0, 0, 0, 0, 0, -3), TWELVE]


def bases():
    """A Real of each of these, the last one that there is."""
    return [roots(poly)[-1] for poly in SINGLES]


def some_element(source, size, bound=6):
    """A tuple of fractions."""
    return tuple([pair_of(Fraction(source.randint(-bound, bound), source.randint(1, bound))) for part in range(size)])


def parts(one):
    """An element as Python's fractions."""
    return [Fraction(top, bottom) for top, bottom in one]


def element(numbers, size):
    """Python's fractions as an element, filled up with noughts."""
    return tuple([pair_of(part) for part in list(numbers) + [0] * (size - len(numbers))])


def slow_times(poly, one, other):
    """The product of two lists of fractions, brought below the degree of poly."""
    product = [Fraction(0)] * (len(one) + len(other) - 1)
    for at, left in enumerate(one):
        for by, right in enumerate(other):
            product[at + by] += left * right
    return slow_division(product, poly)[1]


def rows_of(poly, one):
    """The square of numbers by which the element multiplies all others."""
    size = len(poly) - 1
    rows = []
    for at in range(size):
        rest = slow_times(poly, parts(one), [Fraction(0)] * at + [Fraction(1)])
        rows.append(rest + [Fraction(0)] * (size - len(rest)))
    return rows


def value_near(one, base):
    """A fraction near what an element is."""
    near = worth(base)
    return sum([part * near ** at for at, part in enumerate(parts(one))], Fraction(0))


class Made(unittest.TestCase):
    def test_base_and_size(self):
        for base in bases():
            field = Field(base)
            self.assertEqual((field.base, field.size), (base, len(base.poly) - 1))
            self.assertIs(type(field.base), Real)
            self.assertIs(type(field.size), int)

    def test_what_is_handed_in_is_kept_as_a_copy(self):
        base = square_root(2)
        field = Field(base)
        base.place = 0
        self.assertEqual(field.base, square_root(2))
        self.assertEqual(field.value(((0, 1), (1, 1))), square_root(2))


class IsOwn(unittest.TestCase):
    def test_own(self):
        source = seeded("own")
        for base in bases():
            field = Field(base)
            self.assertIs(field.is_own(((0, 1),) * field.size), True)
            self.assertIs(field.is_own(((GREAT, 1),) * field.size), True)
            for turn in range(5):
                self.assertIs(field.is_own(some_element(source, field.size)), True)

    def test_not_own(self):
        for base in bases():
            field = Field(base)
            good = ((1, 2),) * field.size
            for thing in self.others(good):
                self.assertIs(field.is_own(thing), False, thing)

    def others(self, good):
        """Things that are no elements, all kinds of things among them, and elements with one thing exchanged."""
        things = [good[:-1], good + ((1, 2),), list(good), good[0], str(good), 1, 0]
        things.extend(ODD_THINGS + [(), (1, 2)])
        for at in range(len(good)):
            for thing in NO_RATIOS:
                things.append(good[:at] + (thing,) + good[at + 1:])
        return [thing for thing in things if not is_good(thing, len(good))]

    def test_each_door_refuses_them(self):
        for base in [number(3, 2), square_root(2), root(THREE)]:
            field = Field(base)
            good = ((1, 2),) * field.size
            for thing in self.others(good):
                for ask in [field.inverse, field.trace, field.norm, field.least_poly, field.value, field.side]:
                    refused(self, NoElement, ask, thing)
                for ask in [field.plus, field.times]:
                    refused(self, NoElement, ask, thing, good)
                    refused(self, NoElement, ask, good, thing)
                    refused(self, NoElement, ask, thing, thing)

    def test_of_another_field(self):
        three, two = Field(root(THREE)), Field(square_root(2))
        refused(self, NoElement, two.plus, ((1, 1),) * 2, ((1, 1),) * 3)
        refused(self, NoElement, three.times, ((1, 1),) * 2, ((1, 1),) * 3)


def is_good(thing, size):
    """Whether a thing is a tuple of so many fractions."""
    return isinstance(thing, tuple) and len(thing) == size and all([is_ratio(part) for part in thing])


class Brought(unittest.TestCase):
    def test_against_division(self):
        source = seeded("brought")
        for base in bases():
            field = Field(base)
            for poly in [(), (5,), (0, 1), (0,) * 12 + (3,)] + [some_poly(source, degree, 9) for degree in range(13)]:
                rest = slow_division(poly, base.poly)[1]
                self.assertEqual(field.brought(poly), element(rest, field.size))

    def test_by_hand(self):
        two = Field(square_root(2))
        self.assertEqual(two.brought(()), ((0, 1), (0, 1)))
        self.assertEqual(two.brought((1, 2, 3)), ((7, 1), (2, 1)))
        self.assertEqual(two.brought(SQUARE_2), ((0, 1), (0, 1)))
        self.assertEqual(Field(number(3, 2)).brought((1, 2, 4)), ((13, 1),))
        self.assertEqual(Field(number(3, 2)).brought((0, 1)), ((3, 2),))
        self.assertEqual(Field(root((-1, 0, 2))).brought((0, 0, 0, 1)), ((0, 1), (1, 2)))

    def test_refusals(self):
        for base in [number(1), square_root(2), root(TWELVE)]:
            for thing in NO_POLYS:
                refused(self, NoPoly, Field(base).brought, thing)


class PlusAndTimes(unittest.TestCase):
    def test_against_fractions(self):
        source = seeded("plus")
        for base in bases():
            field = Field(base)
            for turn in range(6):
                one, other = some_element(source, field.size), some_element(source, field.size)
                due = element([left + right for left, right in zip(parts(one), parts(other))], field.size)
                self.assertEqual(field.plus(one, other), due)
                product = slow_times(base.poly, parts(one), parts(other))
                self.assertEqual(field.times(one, other), element(product, field.size))

    def test_nought_and_one(self):
        source = seeded("nought")
        for base in bases():
            field = Field(base)
            one = some_element(source, field.size)
            nothing, unit = element([], field.size), element([1], field.size)
            self.assertEqual(field.plus(one, nothing), one)
            self.assertEqual(field.times(one, nothing), nothing)
            self.assertEqual(field.times(one, unit), one)
            self.assertEqual(field.plus(one, element([-part for part in parts(one)], field.size)), nothing)

    def test_many_figures(self):
        field = Field(root((-GREAT, 1, GREAT + 3), 1))
        one, other = ((GREAT, 3), (-7, GREAT)), ((1, GREAT), (GREAT, 7))
        due = slow_times(field.base.poly, parts(one), parts(other))
        self.assertEqual(field.times(one, other), element(due, 2))


class Inverse(unittest.TestCase):
    def test_times_it_is_one(self):
        source = seeded("inverse")
        for base in bases():
            field = Field(base)
            unit = element([1], field.size)
            for turn in range(5):
                one = some_element(source, field.size)
                if any(parts(one)):
                    found = field.inverse(one)
                    self.assertTrue(field.is_own(found))
                    self.assertEqual(element(slow_times(base.poly, parts(one), parts(found)), field.size), unit)
                    self.assertEqual(field.inverse(found), one)

    def test_single_parts(self):
        for base in bases():
            field = Field(base)
            for at in range(field.size):
                one = element([0] * at + [Fraction(-2, 3)], field.size)
                self.assertEqual(field.times(field.inverse(one), one), element([1], field.size))

    def test_by_hand(self):
        two = Field(square_root(2))
        self.assertEqual(two.inverse(((0, 1), (1, 1))), ((0, 1), (1, 2)))
        self.assertEqual(two.inverse(((1, 1), (1, 1))), ((-1, 1), (1, 1)))
        self.assertEqual(two.inverse(((-2, 3), (0, 1))), ((-3, 2), (0, 1)))
        self.assertEqual(Field(number(5)).inverse(((-2, 3),)), ((-3, 2),))

    def test_nought(self):
        for base in bases():
            field = Field(base)
            refused(self, NoDivision, field.inverse, element([], field.size))


class TraceAndNorm(unittest.TestCase):
    def test_against_the_square_of_numbers(self):
        source = seeded("trace")
        for base in bases():
            field = Field(base)
            for turn in range(5):
                one = some_element(source, field.size)
                rows = rows_of(base.poly, one)
                self.assertEqual(field.trace(one), pair_of(sum([rows[at][at] for at in range(field.size)])))
                self.assertEqual(field.norm(one), pair_of(determinant(rows)))

    def test_elements_that_are_fractions(self):
        for base in bases():
            field = Field(base)
            for part in [Fraction(0), Fraction(1), Fraction(-3, 7)]:
                one = element([part], field.size)
                self.assertEqual(field.trace(one), pair_of(field.size * part))
                self.assertEqual(field.norm(one), pair_of(part ** field.size))

    def test_of_the_base_itself(self):
        two = Field(square_root(2))
        self.assertEqual((two.trace(((0, 1), (1, 1))), two.norm(((0, 1), (1, 1)))), ((0, 1), (-2, 1)))
        cube = Field(root(CUBE_2))
        one = ((0, 1), (1, 1), (0, 1))
        self.assertEqual((cube.trace(one), cube.norm(one)), ((0, 1), (2, 1)))
        other = Field(root((-7, 3, 5)))
        self.assertEqual((other.trace(((0, 1), (1, 1))), other.norm(((0, 1), (1, 1)))), ((-3, 5), (-7, 5)))

    def test_products(self):
        source = seeded("norms")
        for base in bases():
            field = Field(base)
            one, other = some_element(source, field.size), some_element(source, field.size)
            left, right = [Fraction(*field.norm(each)) for each in (one, other)]
            self.assertEqual(Fraction(*field.norm(field.times(one, other))), left * right)


class Values(unittest.TestCase):
    def nought_at(self, poly, one, base):
        """Whether a polynomial is 0 at an element, by multiplying with fractions."""
        worth_of = []
        for part in reversed(poly):
            worth_of = slow_times(base.poly, worth_of, parts(one)) if worth_of else []
            worth_of = worth_of + [Fraction(0)] * (1 - len(worth_of))
            worth_of[0] += part
        return not any(worth_of)

    def held(self, base, one):
        field = Field(base)
        found = field.least_poly(one)
        self.assertTrue(is_single(found), found)
        self.assertTrue(self.nought_at(found, one, base))
        real = field.value(one)
        self.assertEqual(real.poly, found)
        is_near(self, real, value_near(one, base))
        self.assertEqual(field.side(one), real.sign())
        self.assertEqual(field.side(one), (value_near(one, base) > 0) - (value_near(one, base) < 0)
                         if any(parts(one)) else 0)

    def test_all_degrees(self):
        source = seeded("values")
        for base in bases():
            for turn in range(4):
                self.held(base, some_element(source, len(base.poly) - 1))

    def test_each_root(self):
        source = seeded("each root")
        for poly in [SQUARE_2, THREE, QUARTIC, (1, 0, -10, 0, 1)]:
            one = some_element(source, len(poly) - 1)
            for base in roots(poly):
                self.held(base, one)

    def test_elements_of_a_lesser_degree(self):
        for base in bases():
            size = len(base.poly) - 1
            for part in [Fraction(0), Fraction(1), Fraction(-3, 7), Fraction(GREAT, 7)]:
                one = element([part], size)
                self.held(base, one)
                self.assertEqual(Field(base).value(one), number(*pair_of(part)))
        # In the field of a twelfth root of 2 lie its powers.
        field = Field(root(TWELVE, 1))
        for power, degree in [(1, 12), (2, 6), (3, 4), (4, 3), (5, 12), (6, 2), (8, 3), (9, 4), (10, 6), (11, 12)]:
            one = element([0] * power + [1], 12)
            self.assertEqual(len(field.least_poly(one)) - 1, degree)
            self.held(field.base, one)
        self.assertEqual(field.value(element([1] + [0] * 5 + [1], 12)), number(1).plus(square_root(2)))
        # The square root of 6 and that of 2 in the field of the sum of those of 2 and 3.
        field = Field(square_root(2).plus(square_root(3)))
        self.assertEqual(field.value(field.brought((0, 0, 1))), number(5).plus(square_root(24)))
        self.assertEqual(field.value(element([0, Fraction(-9, 2), 0, HALF], 4)), square_root(2))

    def test_sides_close_to_nought(self):
        field = Field(square_root(2))
        # Convergents of the square root of 2, less it.
        one, other = 1, 1
        for turn in range(100):
            one, other = one + 2 * other, one + other
            due = 1 if one * one > 2 * other * other else -1
            self.assertEqual(field.side(((one, other), (-1, 1))), due)
            self.assertEqual(field.side(((-one, other), (1, 1))), -due)
            self.assertEqual(field.side(((one, 1), (-other, 1))), due)

    def test_many_figures(self):
        field = Field(root((-GREAT, 1, GREAT + 3), 1))
        one = ((GREAT, 3), (-7, GREAT))
        self.assertTrue(is_single(field.least_poly(one)))
        self.assertTrue(self.nought_at(field.least_poly(one), one, field.base))
        self.assertEqual(field.value(one), number(GREAT, 3).plus(field.base.times(number(-7, GREAT))))
        self.assertEqual((field.side(one), field.side(((-GREAT, 3), (7, GREAT)))), (1, -1))


class ValueOf(unittest.TestCase):
    def test_against_what_is_near(self):
        source = seeded("value of")
        for base in bases():
            for poly in [(), (5,), (0, 1), (1, 1)] + [some_poly(source, source.randint(1, 12), 5) for turn in range(4)]:
                near = sum([part * worth(base) ** at for at, part in enumerate(poly)], Fraction(0))
                is_near(self, value_of(poly, base), near)
                self.assertEqual(value_of(poly, base), Field(base).value(Field(base).brought(poly)))

    def test_at_a_root_of_the_polynomial_itself(self):
        for base in bases():
            self.assertEqual(value_of(base.poly, base), number(0))
        poly = (6, -5, -3, 1, 1)
        for real in roots(poly):
            self.assertEqual(value_of(poly, real), number(0))

    def test_by_hand(self):
        self.assertEqual(value_of((), square_root(2)), number(0))
        self.assertEqual(value_of((1, 1), square_root(2)), number(1).plus(square_root(2)))
        self.assertEqual(value_of((0,) * 12 + (1,), square_root(2)), number(64))
        self.assertEqual(value_of((1, 2, 4), number(3, 2)), number(13))
        self.assertEqual(value_of((0,) * 12 + (1,), root(TWELVE)), number(2))

    def test_refusals(self):
        for base in [number(1), square_root(2)]:
            for thing in NO_POLYS:
                refused(self, NoPoly, value_of, thing, base)


class Untouched(unittest.TestCase):
    def test_the_same_asked_again(self):
        field = Field(root(THREE, 1))
        one, other = ((1, 2), (0, 1), (-5, 3)), ((0, 1), (7, 2), (1, 1))
        before = copy.deepcopy((vars(field), vars(field.base)))
        asked = []
        for turn in range(2):
            asked.append([field.plus(one, other), field.times(one, other), field.inverse(one), field.trace(one),
                          field.norm(one), field.least_poly(one), str(field.value(one)), field.side(one),
                          field.brought((1, 2, 3, 4))])
        self.assertEqual(asked[0], asked[1])
        self.assertEqual((vars(field), vars(field.base)), before)


if __name__ == "__main__":
    unittest.main()
