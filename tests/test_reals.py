"""[12]: number, root and roots, and [2] and [5] where they touch them."""

import unittest
from fractions import Fraction

from nearby import CUBE_2, FAR_MORE, GOLDEN, NO_PLACES, QUARTIC, SQUARE_2, SQUARE_3, THREE, kept, refused, slow_roots
from nearby import well_made, worth
from things import GREAT, NO_POLYS, NO_WHOLES, from_roots, line, seeded, slow_product, some_poly

from trueroots.errors import NoPoly, NoRatio, NoRoot
from trueroots.factors import factors
from trueroots.polys import MOST_DEGREE
from trueroots.reals import THOUSAND, Real, number, root, roots

HALF = Fraction(1, 2)


class Number(unittest.TestCase):
    def of(self, top, bottom):
        due = Fraction(top, bottom)
        real = number(top, bottom)
        self.assertIs(type(real), Real)
        self.assertEqual((real.poly, real.place), (line(due), 0))

    def test_lowest_terms_or_not(self):
        for top in range(-12, 13):
            for bottom in [-12, -6, -5, -1, 1, 2, 3, 4, 9, 10]:
                self.of(top, bottom)

    def test_bottom_left_out(self):
        for top in [-7, -1, 0, 1, 12, GREAT, -GREAT]:
            real = number(top)
            self.assertEqual((real.poly, real.place), ((-top, 1), 0))

    def test_many_figures(self):
        source = seeded("numbers")
        for turn in range(50):
            self.of(source.randint(-GREAT, GREAT), source.randint(1, GREAT))
        self.of(GREAT, GREAT)
        self.of(-GREAT, GREAT - 1)
        self.of(GREAT * 6, -GREAT * 4)

    def test_refusals(self):
        for thing in NO_WHOLES:
            refused(self, NoRatio, number, thing)
            refused(self, NoRatio, number, thing, 2)
            refused(self, NoRatio, number, 2, thing)
            refused(self, NoRatio, number, thing, 0)
        for top in [-1, 0, 1, GREAT]:
            refused(self, NoRatio, number, top, 0)

    def test_a_thousand(self):
        self.assertEqual((THOUSAND, MOST_DEGREE), (1000, 12))


class Roots(unittest.TestCase):
    def told(self, poly, due):
        found = roots(poly)
        self.assertIs(type(found), list)
        self.assertEqual(kept(found), due, poly)
        for real in found:
            well_made(self, real)
        for place in range(len(due)):
            self.assertEqual(kept([root(poly, place)]), [due[place]])
        for place in [-1, len(due), len(due) + 1, GREAT]:
            self.assertEqual(refused(self, NoRoot, root, poly, place).many, len(due))
        if due:
            self.assertEqual(kept([root(poly)]), due[:1])
        else:
            self.assertEqual(refused(self, NoRoot, root, poly).many, 0)

    def held(self, poly):
        """Against halving: each root is there once, in order, with its own single polynomial."""
        found = roots(poly)
        due = slow_roots(poly)
        self.assertEqual(len(found), len(due), poly)
        singles = [single for single, many in factors(poly)[1]]
        for real, near in zip(found, due):
            well_made(self, real)
            self.assertIn(real.poly, singles)
            self.assertLess(abs(worth(real) - near), FAR_MORE * (1 + abs(near)))

    def test_lines(self):
        for number_of in [0, 1, -1, HALF, Fraction(-22, 7), Fraction(GREAT, 3)]:
            for scale in [1, -1, 6]:
                self.told(slow_product((scale,), line(number_of)), [(line(number_of), 0)])

    def test_products_of_lines(self):
        self.told(from_roots(3, -1, HALF), [((1, 1), 0), ((-1, 2), 0), ((-3, 1), 0)])
        self.told(from_roots(*range(1, 13)), [((-at, 1), 0) for at in range(1, 13)])
        self.told(from_roots(*[Fraction(1, at) for at in range(1, 13)]), [((-1, at), 0) for at in range(12, 0, -1)])
        self.told(from_roots(*range(-6, 6)), [((-at, 1), 0) for at in range(-6, 6)])

    def test_square_roots(self):
        self.told(SQUARE_2, [(SQUARE_2, 0), (SQUARE_2, 1)])
        self.told((4, 0, -2), [(SQUARE_2, 0), (SQUARE_2, 1)])
        self.told(slow_product(SQUARE_2, SQUARE_3), [(SQUARE_3, 0), (SQUARE_2, 0), (SQUARE_2, 1), (SQUARE_3, 1)])
        self.told((1, 0, -10, 0, 1), [((1, 0, -10, 0, 1), place) for place in range(4)])
        self.told((-4, 0, 1), [((2, 1), 0), ((-2, 1), 0)])

    def test_lines_and_square_roots(self):
        poly = slow_product(SQUARE_2, GOLDEN, from_roots(0, 1, Fraction(3, 2)))
        self.told(poly, [(SQUARE_2, 0), (GOLDEN, 0), ((0, 1), 0), ((-1, 1), 0), (SQUARE_2, 1), ((-3, 2), 0),
                         (GOLDEN, 1)])

    def test_near_each_other(self):
        # A fraction just below and one just above the square root of 2.
        low, high = Fraction(141421356237, 10 ** 11), Fraction(141421356238, 10 ** 11)
        self.told(slow_product(SQUARE_2, from_roots(low, high)),
                  [(SQUARE_2, 0), (line(low), 0), (SQUARE_2, 1), (line(high), 0)])
        # A square root whose square is a little greater.
        close = (-2 * 10 ** 150 - 1, 0, 10 ** 150)
        self.told(slow_product(SQUARE_2, close), [(close, 0), (SQUARE_2, 0), (SQUARE_2, 1), (close, 1)])
        # Fractions that are near each other and near 0.
        fractions = [Fraction(at, GREAT) for at in (-1, 1, 2)]
        poly = from_roots(*fractions)
        self.told(poly, [(line(each), 0) for each in fractions])

    def test_two_near_roots_of_one_single_polynomial(self):
        # By Mignotte: x ** 12 is so little near 1 / 10 ** 40 that the square beside it has two roots there.
        poly = slow_product((-2,), (-1, 10 ** 40), (-1, 10 ** 40)) + (0,) * 9 + (1,)
        found = roots(poly)
        self.assertEqual(kept(found), [(poly, place) for place in range(4)])
        self.assertEqual([real.floor() for real in found[1:3]], [0, 0])
        self.assertEqual([real.side(number(1, 10 ** 40)) for real in found], [-1, -1, 1, 1])

    def test_more_than_once(self):
        for many in [1, 2, 3]:
            poly = slow_product(*([SQUARE_2] * many), *([from_roots(1)] * (many + 1)), (-6,))
            self.told(poly, [(SQUARE_2, 0), ((-1, 1), 0), (SQUARE_2, 1)])
        self.told((0,) * 12 + (-5,), [((0, 1), 0)])

    def test_parts_without_real_roots(self):
        for rootless in [(1, 0, 1), (1, 1, 1), (2, 0, 0, 0, 1), (7,), (-7,)]:
            self.told(rootless, [])
            self.told(slow_product(rootless, SQUARE_2, from_roots(1)), [(SQUARE_2, 0), ((-1, 1), 0), (SQUARE_2, 1)])
        self.told(slow_product(CUBE_2, QUARTIC), [(QUARTIC, 0), (QUARTIC, 1), (CUBE_2, 0)])

    def test_degree_12(self):
        self.told((-2,) + (0,) * 11 + (1,), [((-2,) + (0,) * 11 + (1,), place) for place in range(2)])
        self.told((2,) + (0,) * 11 + (1,), [])
        # Chebyshev's: all twelve roots are real; of two factors, of degree 4 and 8.
        chebyshev = (1, 0, -72, 0, 840, 0, -3584, 0, 6912, 0, -6144, 0, 2048)
        found = roots(chebyshev)
        self.assertEqual([len(real.poly) for real in found], [9, 5, 9, 9, 5, 9, 9, 5, 9, 9, 5, 9])
        self.assertEqual([real.place for real in found], [0, 0, 1, 2, 1, 3, 4, 2, 5, 6, 3, 7])
        self.held(chebyshev)

    def test_three_real_roots(self):
        self.told(THREE, [(THREE, place) for place in range(3)])
        self.told(slow_product(THREE, (0, 1)), [(THREE, 0), ((0, 1), 0), (THREE, 1), (THREE, 2)])

    def test_against_halving(self):
        source = seeded("roots")
        for turn in range(60):
            self.held(some_poly(source, source.randint(1, 12), source.choice([1, 3, 10, 1000])))

    def test_products_against_halving(self):
        source = seeded("products")
        for turn in range(40):
            parts = [some_poly(source, source.randint(1, 4), 4) for part in range(3)]
            self.held(slow_product(*parts))

    def test_200_figures(self):
        source = seeded("great roots")
        for degree in [1, 2, 3, 6, 12]:
            poly = some_poly(source, degree, GREAT)
            self.held(poly)
        for poly in [(-GREAT, 0, 1), (-1, 0, GREAT), (-GREAT,) + (0,) * 11 + (GREAT - 1,), (-GREAT, 0, 0, 7)]:
            self.held(poly)

    def test_whatever_was_told_may_be_handed_in(self):
        great = root((-GREAT, 1, 1), 1).plus(root((1 - GREAT, 0, 0, 3)))
        self.assertGreater(max(great.poly), GREAT)
        self.assertIn((great.poly, great.place), kept(roots(great.poly)))

    def test_a_new_list_each_time(self):
        found = roots(SQUARE_2)
        found.append(5)
        found[0] = None
        self.assertEqual(kept(roots(SQUARE_2)), [(SQUARE_2, 0), (SQUARE_2, 1)])
        self.assertIsNot(roots(SQUARE_2), roots(SQUARE_2))

    def test_the_same_asked_again(self):
        poly = slow_product(THREE, SQUARE_2)
        self.assertEqual(kept(roots(poly)), kept(roots(poly)))
        self.assertEqual(roots(poly), roots(poly))


class Refusals(unittest.TestCase):
    def test_what_is_no_polynomial(self):
        for thing in NO_POLYS + [()]:
            refused(self, NoPoly, roots, thing)
            refused(self, NoPoly, root, thing)
            refused(self, NoPoly, root, thing, 0)

    def test_no_polynomial_goes_ahead_of_no_root(self):
        for thing in NO_POLYS + [()]:
            for place in [-1, 13, None, True, "0"]:
                refused(self, NoPoly, root, thing, place)

    def test_what_is_no_place(self):
        for poly, many in [((1, 0, 1), 0), ((3,), 0), (line(HALF), 1), (SQUARE_2, 2), (THREE, 3)]:
            for place in NO_PLACES + [many, many + 1]:
                error = refused(self, NoRoot, root, poly, place)
                self.assertEqual(error.many, many)
                self.assertIs(type(error.many), int)


if __name__ == "__main__":
    unittest.main()
