"""[14]: side, sign, floor, near, span, == and the text of a Real, and [3] where it speaks of equal reals."""

import copy
import unittest
from fractions import Fraction

from nearby import CUBE_2, FAR_MORE, GOLDEN, NEARNESS, QUARTIC, SQUARE_2, THREE, sample, square_root, worth
from things import GREAT, ODD_THINGS, pair_of, seeded

from trueroots.ratios import is_ratio
from trueroots.reals import number, root, roots

BOTTOMS = [1, 2, 3, 7, 10, 1000, 1024, 999999, 10 ** 9 - 1, 10 ** 9]


def told(fraction):
    """A fraction as the program has it, as Python's."""
    return Fraction(fraction[0], fraction[1])


def near_two(figures):
    """The square root of 2 with so many figures behind the point, cut off."""
    low, high = 10 ** figures, 2 * 10 ** figures
    while high - low > 1:
        middle = (low + high) // 2
        low, high = (middle, high) if middle * middle <= 2 * 10 ** (2 * figures) else (low, middle)
    return Fraction(low, 10 ** figures)


class Side(unittest.TestCase):
    def test_all_pairs(self):
        reals = sample()
        for at, one in enumerate(reals):
            for by, other in enumerate(reals):
                far = worth(one) - worth(other)
                due = 0 if at == by else (1 if far > 0 else -1)
                self.assertTrue(at == by or abs(far) > FAR_MORE)
                self.assertEqual(one.side(other), due, (str(one), str(other)))
                self.assertIs(type(one.side(other)), int)

    def test_sign(self):
        for real in sample():
            due = worth(real)
            self.assertEqual(real.sign(), 0 if due == 0 else (1 if due > 0 else -1))
            self.assertEqual(real.sign(), real.side(number(0)))
            self.assertEqual(-real.sign(), number(0).side(real))

    def test_near_nought(self):
        tiny = root((-1, 0, 0, GREAT))
        self.assertEqual((tiny.sign(), tiny.opposite().sign()), (1, -1))
        self.assertEqual((tiny.side(number(0)), tiny.floor(), tiny.opposite().floor()), (1, 0, -1))
        # The difference of two numbers that are almost the same.
        close = root((-2 * GREAT - 1, 0, GREAT), 1)
        self.assertEqual(square_root(2).minus(close).sign(), -1)
        self.assertEqual(close.minus(square_root(2)).sign(), 1)

    def test_a_fraction_close_to_a_root(self):
        two = square_root(2)
        for figures in [1, 5, 20, 60, 199]:
            low = near_two(figures)
            high = low + Fraction(1, 10 ** figures)
            for fraction, due in [(low, 1), (high, -1)]:
                real = number(*pair_of(fraction))
                self.assertEqual((two.side(real), real.side(two)), (due, -due))
                self.assertEqual((two.opposite().side(real.opposite()), two == real), (-due, False))

    def test_roots_near_each_other(self):
        two = square_root(2)
        for figures in [3, 30, 100, 199]:
            scale = 10 ** figures
            for top, due in [(2 * scale - 1, 1), (2 * scale + 1, -1)]:
                close = root((-top, 0, scale), 1)
                self.assertEqual((two.side(close), close.side(two), two == close), (due, -due, False))

    def test_two_roots_of_one_polynomial(self):
        for poly in [SQUARE_2, THREE, (1, 0, -10, 0, 1)]:
            found = roots(poly)
            for at, one in enumerate(found):
                for by, other in enumerate(found):
                    self.assertEqual(one.side(other), (at > by) - (at < by))

    def test_equal_ones_made_in_another_way(self):
        pairs = [
            (square_root(2).plus(square_root(3)), root((1, 0, -10, 0, 1), 3)),
            (square_root(2).times(square_root(8)), number(4)),
            (number(2).nth(2), square_root(2)),
            (root((6, -5, 1), 1), number(3)),
            (root((0, -2, 0, 1), 2), square_root(2)),
            (number(6, 4), number(3, 2)),
            (root(CUBE_2).raised(2).nth(2), root(CUBE_2)),
            (number(5).plus(number(2).times(square_root(6))).nth(2), square_root(2).plus(square_root(3))),
        ]
        for one, other in pairs:
            self.assertTrue(one == other)
            self.assertFalse(one != other)
            self.assertEqual((one.side(other), other.side(one), str(one)), (0, 0, str(other)))


class Equal(unittest.TestCase):
    def test_each_alone_is_equal_to_itself(self):
        reals, again = sample(), sample()
        for at, one in enumerate(reals):
            for by, other in enumerate(again):
                self.assertEqual(one == other, at == by)
                self.assertEqual(one != other, at != by)
                self.assertEqual(str(one) == str(other), at == by)

    def test_other_things(self):
        for real in [number(1), number(0), square_root(2)]:
            for thing in ODD_THINGS + [0, 1, (1, 1), (-1, 1), real.poly, (real.poly, real.place), str(real)]:
                self.assertIs(real == thing, False)
                self.assertIs(real != thing, True)
                self.assertIs(thing == real, False)

    def test_copies(self):
        for real in sample():
            self.assertTrue(copy.deepcopy(real) == real)


class Floor(unittest.TestCase):
    def test_against_what_is_near(self):
        for real in sample():
            self.assertEqual(real.floor(), worth(real).__floor__(), str(real))
            self.assertIs(type(real.floor()), int)

    def test_whole_numbers(self):
        for whole in [-GREAT, -2, -1, 0, 1, 2, GREAT]:
            self.assertEqual(number(whole).floor(), whole)
            self.assertEqual(number(2 * whole + 1, 2).floor(), whole)

    def test_close_to_whole_numbers(self):
        for whole in [-3, -1, 0, 1, 4, 10 ** 15]:
            for gap in [10 ** 3, 10 ** 30, GREAT]:
                self.assertEqual(number(whole * gap + 1, gap).floor(), whole)
                self.assertEqual(number(whole * gap - 1, gap).floor(), whole - 1)
        # Square roots of numbers a little more, or less, than a square.
        for base in [1, 2, 7, 10 ** 90]:
            for gap in [1, 10 ** 15]:
                more = root((-(base * base * gap + 1), 0, gap), 1)
                less = root((-(base * base * gap - 1), 0, gap), 1) if base * base * gap > 1 else number(0)
                self.assertEqual((more.floor(), less.floor()), (base, base - 1))
                self.assertEqual((more.opposite().floor(), number(base).floor()), (-base - 1, base))
                if less != number(0):
                    self.assertEqual(less.opposite().floor(), -base)


class Near(unittest.TestCase):
    def test_against_what_is_near(self):
        for real in sample():
            for bottom in BOTTOMS:
                found = real.near(bottom=bottom)
                self.assertTrue(is_ratio(found))
                self.assertEqual(found, pair_of(Fraction((worth(real) * bottom).__floor__(), bottom)), str(real))

    def test_left_out(self):
        for real in sample():
            self.assertEqual(real.near(), real.near(bottom=1000))
        self.assertEqual(square_root(2).near(), (707, 500))
        self.assertEqual(square_root(2).opposite().near(), (-283, 200))
        self.assertEqual(number(1, 3).near(), (333, 1000))
        self.assertEqual(number(-1, 3).near(), (-167, 500))

    def test_fractions_that_are_met(self):
        for top, bottom in [(1, 2), (-1, 2), (5, 1), (-3, 1000), (0, 1)]:
            self.assertEqual(number(top, bottom).near(), (top, bottom))
            self.assertEqual(number(top, bottom).near(bottom=1), ((top // bottom), 1))

    def test_close_by(self):
        for bottom in [1, 3, 1000, 10 ** 9]:
            for top in [-5, -1, 0, 1, 12]:
                at = Fraction(top, bottom)
                for gap in [10 ** 12, GREAT]:
                    more, less = number(*pair_of(at + Fraction(1, gap))), number(*pair_of(at - Fraction(1, gap)))
                    self.assertEqual(told(more.near(bottom=bottom)), at)
                    self.assertEqual(told(less.near(bottom=bottom)), at - Fraction(1, bottom))

    def test_great_bottoms(self):
        for figures in [20, 100, 400]:
            found = square_root(2).near(bottom=10 ** figures)
            self.assertEqual(told(found), near_two(figures))


class Span(unittest.TestCase):
    def held(self, real, narrow, found):
        self.assertIs(type(found), tuple)
        low, high = found
        self.assertTrue(is_ratio(low) and is_ratio(high))
        if len(real.poly) == 2:
            self.assertEqual((low, high), ((-real.poly[0], real.poly[1]),) * 2)
        else:
            self.assertEqual((real.side(number(*low)), real.side(number(*high))), (1, -1))
            self.assertTrue(told(low) - NEARNESS < worth(real) < told(high) + NEARNESS)
            self.assertLessEqual(told(high) - told(low), Fraction(1, narrow))

    def test_all(self):
        for real in sample():
            for narrow in BOTTOMS:
                self.held(real, narrow, real.span(narrow=narrow))
            self.held(real, 1000, real.span())
            self.assertEqual(real.span(), real.span())

    def test_near_whole_numbers_and_great_ones(self):
        for poly in [(-(10 ** 60) - 1, 0, 1), (1 - 10 ** 60, 0, 1), (-GREAT - 1, 0, 1), (-GREAT, 0, 0, 1)]:
            for real in roots(poly):
                for narrow in [1, 10 ** 9]:
                    self.held(real, narrow, real.span(narrow=narrow))

    def test_somewhat_narrower(self):
        self.held(square_root(2), 10 ** 30, square_root(2).span(narrow=10 ** 30))


class Text(unittest.TestCase):
    def test_fractions(self):
        for top, bottom, text in [(0, 1, "0"), (5, 1, "5"), (-5, 1, "-5"), (-3, 4, "-3/4"), (6, 4, "3/2"),
                                  (1, GREAT, "1/1" + "0" * 200), (-GREAT, 1, "-1" + "0" * 200)]:
            self.assertEqual(str(number(top, bottom)), text)

    def test_others(self):
        self.assertEqual([str(real) for real in roots(SQUARE_2)], ["root 0 x^2-2", "root 1 x^2-2"])
        self.assertEqual([str(real) for real in roots(THREE)], [f"root {place} x^3-3x+1" for place in range(3)])
        self.assertEqual(str(root(QUARTIC, 1)), "root 1 x^4-x-1")
        self.assertEqual(str(root(GOLDEN)), "root 0 x^2-x-1")
        self.assertEqual(str(square_root(2).over(number(-3))), "root 0 9x^2-2")
        self.assertEqual(str(root((-7, 2, 0, -1, 3))), "root 0 3x^4-x^3+2x-7")
        self.assertEqual(str(root((-5,) + (0,) * 11 + (1,), 1)), "root 1 x^12-5")

    def test_many_figures(self):
        # More figures than Python itself would write.
        top, bottom = 10 ** 5000 + 7, 3 ** 11000
        real = number(2).over(number(1))
        for turn in range(13):
            real = real.times(real)
        self.assertEqual(real.floor(), 2 ** 8192)
        self.assertEqual(str(number(10 ** 5000)), "1" + "0" * 5000)
        self.assertEqual(str(number(-10 ** 5000 - 7)), "-1" + "0" * 4999 + "7")
        text = str(number(top, bottom))
        self.assertEqual(text.split("/")[0], "1" + "0" * 4999 + "7")
        back = 0
        for figure in text.split("/")[1]:
            back = 10 * back + int(figure)
        self.assertEqual(back, bottom)
        self.assertEqual(str(root((-10 ** 5001, 1, 1))), "root 0 x^2+x-1" + "0" * 5001)

    def test_seeded_numbers(self):
        source = seeded("figures")
        for figures in [1, 59, 60, 61, 119, 120, 121, 200]:
            whole = source.randint(10 ** (figures - 1), 10 ** figures - 1)
            self.assertEqual(str(number(whole)), str(whole))
            self.assertEqual(str(number(-whole)), str(-whole))
            self.assertEqual(str(number(10 ** (figures - 1))), "1" + "0" * (figures - 1))


if __name__ == "__main__":
    unittest.main()
