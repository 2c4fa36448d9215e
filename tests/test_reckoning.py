"""[13]: sums, differences, products, quotients, powers and roots of reals, exactly."""

import copy
import unittest
from fractions import Fraction

from nearby import CUBE_2, GOLDEN, QUARTIC, SQUARE_2, SQUARE_3, THREE, is_near, kept, nth_near, refused, sample
from nearby import square_root, worth
from things import GREAT, pair_of, seeded, slow_product

from trueroots.errors import NoDivision, NoReal, TooGreat
from trueroots.reals import Real, number, root, roots

HALF = Fraction(1, 2)
DEEDS = ["plus", "minus", "times", "over"]


def reckoned(deed, one, other):
    """What comes of two Reals."""
    return getattr(one, deed)(other)


def due_of(deed, one, other):
    """What is due of two fractions of Python's."""
    if deed == "plus":
        return one + other
    if deed == "minus":
        return one - other
    return one * other if deed == "times" else one / other


def of_fraction(number_of):
    """A fraction of Python's as a Real."""
    return number(*pair_of(number_of))


def degree(real):
    return len(real.poly) - 1


class Fractions(unittest.TestCase):
    def test_all_four(self):
        fractions = [Fraction(top, bottom) for top in (-7, -1, 0, 1, 2, 9) for bottom in (1, 2, 3, 10)]
        for one in fractions:
            for other in fractions:
                for deed in DEEDS:
                    if deed != "over" or other != 0:
                        found = reckoned(deed, of_fraction(one), of_fraction(other))
                        self.assertEqual(found, of_fraction(due_of(deed, one, other)), (one, deed, other))
                        self.assertEqual(len(found.poly), 2)

    def test_many_figures(self):
        source = seeded("fractions")
        for turn in range(20):
            one = Fraction(source.randint(-GREAT, GREAT), source.randint(1, GREAT))
            other = Fraction(source.randint(1, GREAT), source.randint(1, GREAT))
            for deed in DEEDS:
                found = reckoned(deed, of_fraction(one), of_fraction(other))
                self.assertEqual(found, of_fraction(due_of(deed, one, other)))

    def test_powers(self):
        for one in [Fraction(0), Fraction(1), Fraction(-1), Fraction(-3, 2), Fraction(7, 5), Fraction(GREAT, 3)]:
            for many in range(14):
                self.assertEqual(of_fraction(one).raised(many), of_fraction(one ** many), (one, many))

    def test_opposite(self):
        for one in [Fraction(0), Fraction(1), Fraction(-7, 3), Fraction(GREAT)]:
            self.assertEqual(of_fraction(one).opposite(), of_fraction(-one))


class SquareRoots(unittest.TestCase):
    def test_by_hand(self):
        two, three, six = square_root(2), square_root(3), square_root(6)
        self.assertEqual(kept([two.plus(three)]), [((1, 0, -10, 0, 1), 3)])
        self.assertEqual(kept([two.minus(three)]), [((1, 0, -10, 0, 1), 1)])
        self.assertEqual(kept([three.minus(two)]), [((1, 0, -10, 0, 1), 2)])
        self.assertEqual(kept([two.times(three)]), [((-6, 0, 1), 1)])
        self.assertEqual(kept([two.over(three)]), [((-2, 0, 3), 1)])
        self.assertEqual(kept([three.over(two)]), [((-3, 0, 2), 1)])
        self.assertEqual(two.times(three), six)
        self.assertEqual(six.over(three), two)
        self.assertEqual(kept([two.opposite()]), [(SQUARE_2, 0)])
        self.assertEqual(kept([number(1).plus(two)]), [((-1, -2, 1), 1)])
        self.assertEqual(kept([two.plus(number(1))]), [((-1, -2, 1), 1)])
        self.assertEqual(kept([number(1).minus(two)]), [((-1, -2, 1), 0)])
        self.assertEqual(kept([two.times(number(-1, 2))]), [((-1, 0, 2), 0)])
        self.assertEqual(kept([number(-1, 2).times(two)]), [((-1, 0, 2), 0)])
        self.assertEqual(kept([two.over(number(-1, 2))]), [((-8, 0, 1), 0)])
        self.assertEqual(kept([number(-1, 2).over(two)]), [((-1, 0, 8), 0)])

    def test_the_golden_number(self):
        golden = root(GOLDEN, 1)
        self.assertEqual(golden, number(1).plus(square_root(5)).over(number(2)))
        self.assertEqual(golden.times(golden), golden.plus(number(1)))
        self.assertEqual(number(1).over(golden), golden.minus(number(1)))
        self.assertEqual(golden.times(root(GOLDEN, 0)), number(-1))
        self.assertEqual(golden.plus(root(GOLDEN, 0)), number(1))

    def test_of_one_square_root_the_outcome_is_of_that_one(self):
        # (a + b * root) and (c + d * root) by hand.
        source = seeded("one square root")
        two = square_root(2)
        for turn in range(25):
            a, b, c, d = [Fraction(source.randint(-6, 6), source.randint(1, 4)) for part in range(4)]
            one = of_fraction(a).plus(of_fraction(b).times(two))
            other = of_fraction(c).plus(of_fraction(d).times(two))
            self.assertEqual(one.plus(other), of_fraction(a + c).plus(of_fraction(b + d).times(two)))
            self.assertEqual(one.minus(other), of_fraction(a - c).plus(of_fraction(b - d).times(two)))
            product = of_fraction(a * c + 2 * b * d).plus(of_fraction(a * d + b * c).times(two))
            self.assertEqual(one.times(other), product)
            if (c, d) != (0, 0):
                self.assertEqual(product.over(other), one)

    def test_many_square_roots(self):
        for one in range(2, 8):
            for other in range(2, 8):
                left, right = square_root(one), square_root(other)
                self.assertEqual(left.times(right), square_root(one * other))
                self.assertEqual(left.plus(right).raised(2), number(one + other).plus(number(2).times(
                    square_root(one * other))))
                self.assertEqual(left.plus(right).times(left.minus(right)) if degree(left.plus(right)) < 4 else
                                 number(one - other), number(one - other))


class Simple(unittest.TestCase):
    """Outcomes that are fractions, or of a lesser degree, where the reals are not."""

    def test_a_number_and_its_opposite(self):
        for real in sample():
            if degree(real) ** 2 <= 12:
                self.assertEqual(real.plus(real.opposite()), number(0))
                self.assertEqual(real.minus(real), number(0))
                self.assertEqual(real.opposite().opposite(), real)
                self.assertEqual(real.minus(real.opposite()), real.times(number(2)))

    def test_a_number_with_itself(self):
        for real in sample():
            if degree(real) ** 2 <= 12:
                self.assertEqual(real.plus(real), real.times(number(2)))
                self.assertEqual(real.times(real), real.raised(2))
                if real.sign() != 0:
                    self.assertEqual(real.over(real), number(1))

    def test_square_roots_that_come_to_fractions(self):
        self.assertEqual(square_root(2).times(square_root(8)), number(4))
        self.assertEqual(square_root(8).over(square_root(2)), number(2))
        self.assertEqual(square_root(2).times(square_root(2).opposite()), number(-2))
        self.assertEqual(square_root(2).plus(number(1)).times(square_root(2).minus(number(1))), number(1))
        one, other = roots((-1, 3, 1))
        self.assertEqual((one.plus(other), one.times(other)), (number(-3), number(-1)))

    def test_cube_roots(self):
        cube = root(CUBE_2)
        self.assertEqual(cube.times(cube).raised(3), number(4))
        self.assertEqual(kept([cube.times(cube)]), [((-4, 0, 0, 1), 0)])
        self.assertEqual(cube.times(root((-4, 0, 0, 1))), number(2))
        self.assertEqual(cube.over(root((-16, 0, 0, 1))), number(1, 2))

    def test_the_roots_of_one_polynomial_come_to_its_coefficients(self):
        one, two, three = roots(THREE)
        # Each two roots of this one are conjugates whose sum and product are of degree 3 again.
        self.assertEqual(one.plus(two), three.opposite())
        self.assertEqual(one.times(two), number(-1).over(three))
        self.assertEqual(one.plus(two).plus(three), number(0))
        self.assertEqual(one.times(two).times(three), number(-1))


class Greater(unittest.TestCase):
    def test_all_pairs_against_what_is_near(self):
        reals = [real for real in sample() if degree(real) > 1 or real in (number(0), number(-3, 4), number(7))]
        source = seeded("pairs")
        for turn in range(160):
            one, other = source.choice(reals), source.choice(reals)
            if degree(one) * degree(other) <= 12:
                for deed in DEEDS:
                    if deed != "over" or other.sign() != 0:
                        found = reckoned(deed, one, other)
                        is_near(self, found, due_of(deed, worth(one), worth(other)))
                        self.assertLessEqual(degree(found), degree(one) * degree(other))

    def test_back_to_where_it_came_from(self):
        for one, other in [(root(CUBE_2), square_root(2)), (root(THREE, 0), square_root(3)),
                           (root(THREE, 2), root(GOLDEN)), (root(QUARTIC, 1), number(5, 3))]:
            self.assertEqual(kept([one.plus(other)]), kept([other.plus(one)]))
            self.assertEqual(kept([one.times(other)]), kept([other.times(one)]))
            self.assertEqual(one.minus(other), other.minus(one).opposite())
            self.assertEqual(one.over(other), number(1).over(other.over(one)))

    def test_a_sum_by_hand(self):
        # (x - root of 2) ** 3 = 2, brought to whole coefficients.
        found = root(CUBE_2).plus(square_root(2))
        self.assertEqual(kept([found]), [((-4, -24, 12, -4, -6, 0, 1), 1)])
        self.assertEqual(kept([root(CUBE_2).times(square_root(2))]), [((-32, 0, 0, 0, 0, 0, 1), 1)])

    def test_degree_12(self):
        found = root(CUBE_2).plus(root(QUARTIC, 0))
        self.assertEqual(degree(found), 12)
        is_near(self, found, worth(root(CUBE_2)) + worth(root(QUARTIC, 0)))
        self.assertEqual(found.minus(number(1)).plus(number(1)), found)
        self.assertEqual(found.times(number(-2, 3)).over(number(-2, 3)), found)

    def test_200_figures(self):
        one, other = root((1 - GREAT, 3, 0, GREAT - 7)), root((-GREAT, 0, 5))
        for deed in DEEDS:
            is_near(self, reckoned(deed, one, other), due_of(deed, worth(one), worth(other)))


class TooGreats(unittest.TestCase):
    def test_just_where_the_product_is_more_than_12(self):
        reals = [number(3)] + [root((-3,) + (0,) * (many - 1) + (1,)) for many in range(2, 13)]
        for one in reals:
            for other in reals:
                product = degree(one) * degree(other)
                for deed in DEEDS:
                    if product > 12:
                        error = refused(self, TooGreat, reckoned, deed, one, other)
                        self.assertEqual(error.degree, product)
                    elif product in (2, 12):
                        is_near(self, reckoned(deed, one, other), due_of(deed, worth(one), worth(other)))

    def test_also_where_the_outcome_would_be_simple(self):
        real = root(QUARTIC)
        for other in [real, real.opposite(), number(1).over(real)]:
            for deed in DEEDS:
                self.assertEqual(refused(self, TooGreat, reckoned, deed, real, other).degree, 16)
        twelve = root((-2,) + (0,) * 11 + (1,))
        self.assertEqual(refused(self, TooGreat, reckoned, "minus", twelve, twelve).degree, 144)

    def test_division_by_nought(self):
        for real in sample():
            refused(self, NoDivision, real.over, number(0))
            refused(self, NoDivision, real.over, number(0, -5))
            if degree(real) ** 2 <= 12:
                refused(self, NoDivision, real.over, real.minus(real))

    def test_a_dividend_of_nought(self):
        for real in sample():
            if real.sign() != 0:
                self.assertEqual(number(0).over(real), number(0))


class Raised(unittest.TestCase):
    def test_small_powers(self):
        for real in sample():
            self.assertEqual(real.raised(0), number(1))
            self.assertEqual(real.raised(1), real)
            is_near(self, real.raised(2), worth(real) ** 2)

    def test_all_powers(self):
        for real in [square_root(2), square_root(3).opposite(), root(THREE, 0), root(CUBE_2), root(QUARTIC, 0),
                     root(GOLDEN, 0), root((-2,) + (0,) * 11 + (1,), 0)]:
            for many in range(13):
                is_near(self, real.raised(many), worth(real) ** many)

    def test_by_hand(self):
        self.assertEqual(square_root(2).raised(12), number(64))
        self.assertEqual(square_root(2).opposite().raised(3), square_root(8).opposite())
        self.assertEqual(root(CUBE_2).raised(12), number(16))
        self.assertEqual(root((-2,) + (0,) * 11 + (1,), 0).raised(6), square_root(2))
        self.assertEqual(root((-2,) + (0,) * 11 + (1,), 0).raised(12), number(2))
        # Fibonacci's numbers.
        self.assertEqual(root(GOLDEN, 1).raised(12), number(144).times(root(GOLDEN, 1)).plus(number(89)))

    def test_somewhat_more_than_12(self):
        self.assertEqual(square_root(2).raised(14), number(128))


class Nth(unittest.TestCase):
    def test_fractions(self):
        for many in range(1, 13):
            for one in [Fraction(0), Fraction(1), Fraction(2), Fraction(3, 5), Fraction(2, 3) ** many, 5 ** many]:
                found = of_fraction(one).nth(many)
                is_near(self, found, nth_near(one, many))
                self.assertEqual(found.raised(many), of_fraction(one))
                self.assertGreaterEqual(found.sign(), 0)
        self.assertEqual(number(8, 27).nth(3), number(2, 3))
        self.assertEqual(number(16).nth(4), number(2))
        self.assertEqual(number(16).nth(8), square_root(2))
        self.assertEqual(kept([number(16).nth(6)]), [((-4, 0, 0, 1), 0)])

    def test_below_nought(self):
        for many in [1, 3, 5, 7, 9, 11]:
            for one in [Fraction(-1), Fraction(-2), Fraction(-8, 27), Fraction(-3, 7)]:
                found = of_fraction(one).nth(many)
                is_near(self, found, -nth_near(-one, many))
                self.assertEqual(found.raised(many), of_fraction(one))
        for many in [2, 4, 6, 8, 10, 12]:
            for one in [Fraction(-1), Fraction(-4), Fraction(-1, GREAT)]:
                refused(self, NoReal, of_fraction(one).nth, many)

    def test_others(self):
        for real in sample():
            for many in range(1, 14):
                if degree(real) * many > 12:
                    self.assertEqual(refused(self, TooGreat, real.nth, many).degree, degree(real) * many)
                elif many % 2 == 0 and real.sign() < 0:
                    refused(self, NoReal, real.nth, many)
                elif many < 5:
                    found = real.nth(many)
                    self.assertEqual(found.raised(many), real)
                    self.assertEqual(found.sign(), real.sign())

    def test_which_of_the_roots(self):
        # All three roots of THREE are real, one is below 0.
        self.assertEqual([real.sign() for real in roots(THREE)], [-1, 1, 1])
        for place in range(3):
            real = root(THREE, place)
            self.assertEqual(real.raised(3).nth(3), real)
            self.assertEqual(real.raised(2).nth(2), real if place > 0 else real.opposite())
            is_near(self, real.nth(3), nth_near(abs(worth(real)), 3) * real.sign())
            if place > 0:
                is_near(self, real.nth(4), nth_near(worth(real), 4))

    def test_outcomes_that_are_simple(self):
        self.assertEqual(number(3).plus(number(2).times(square_root(2))).nth(2), number(1).plus(square_root(2)))
        self.assertEqual(number(7).plus(number(5).times(square_root(2))).nth(3), number(1).plus(square_root(2)))

    def test_too_great_goes_ahead_of_no_real(self):
        error = refused(self, TooGreat, square_root(2).opposite().nth, 8)
        self.assertEqual(error.degree, 16)
        self.assertEqual(refused(self, TooGreat, number(-2).nth, 14).degree, 14)
        refused(self, NoReal, square_root(2).opposite().nth, 6)

    def test_a_polynomial_that_parts(self):
        # 4 x ** 4 + 1 parts, though 4 x + 1 does not: the fourth root of -1/4 is no real, the third root is one.
        refused(self, NoReal, number(-1, 4).nth, 4)
        self.assertEqual(number(-27, 8).nth(3), number(-3, 2))


class Untouched(unittest.TestCase):
    def test_what_was_reckoned_with_stays_as_it_was(self):
        for one, other in [(square_root(2), root(CUBE_2)), (number(2, 3), root(THREE)), (root(THREE), number(-1))]:
            before = copy.deepcopy((vars(one), vars(other)))
            for deed in DEEDS:
                reckoned(deed, one, other)
            for real in (one, other):
                real.opposite()
                real.raised(5)
                real.nth(3)
                real.near(bottom=10 ** 9)
                real.span(narrow=10 ** 9)
            one.side(other)
            self.assertEqual((vars(one), vars(other)), before)

    def test_each_outcome_is_a_real(self):
        one, other = square_root(2), number(0)
        for found in [one.plus(other), one.minus(other), one.times(other), other.over(one), one.opposite(),
                      one.raised(0), one.nth(1)]:
            self.assertIs(type(found), Real)

    def test_a_chain_of_deeds_that_comes_back(self):
        real = square_root(3)
        for turn in range(1, 6):
            real = real.plus(number(1, turn)).times(number(turn + 1)).over(number(-turn))
        for turn in range(5, 0, -1):
            real = real.times(number(-turn)).over(number(turn + 1)).minus(number(1, turn))
        self.assertEqual(real, square_root(3))

    def test_products_of_a_polynomial_with_itself_are_not_taken_twice(self):
        poly = slow_product(SQUARE_2, SQUARE_3)
        self.assertEqual(root(poly, 3).times(root(poly, 2)), square_root(6))


if __name__ == "__main__":
    unittest.main()
