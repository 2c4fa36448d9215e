"""[4], and [2] where it touches fractions."""

import copy
import unittest
from fractions import Fraction
from math import gcd

from things import GREAT, NO_RATIOS, NO_WHOLES, nested, seeded

from trueroots.errors import NoRatio, NothingBetween
from trueroots.ratios import is_ratio, ratio, simplest


def pair(number):
    """A Fraction as a tuple."""
    return (number.numerator, number.denominator)


def slow_simplest(low, high):
    """The simplest fraction, by looking at each bottom in turn."""
    bottom = 1
    while True:
        first = low.numerator * bottom // low.denominator + 1
        last = -(-high.numerator * bottom // high.denominator) - 1
        if first <= last:
            return Fraction(min(range(first, last + 1), key=abs), bottom)
        bottom += 1


class IsRatio(unittest.TestCase):
    def test_lowest_terms(self):
        for thing in [(0, 1), (1, 1), (-1, 1), (1, 2), (-3, 4), (7, 3), (5, 1), (-5, 1), (GREAT, 1), (-GREAT, 1),
                      (1, GREAT), (-1, GREAT), (GREAT - 1, GREAT), (GREAT, GREAT - 1), (GREAT ** 13 + 1, GREAT ** 12)]:
            self.assertIs(is_ratio(thing), True, thing)

    def test_all_small_ones(self):
        for top in range(-12, 13):
            for bottom in range(-12, 13):
                due = bottom > 0 and gcd(top, bottom) == 1
                self.assertIs(is_ratio((top, bottom)), due, (top, bottom))

    def test_what_is_none(self):
        for thing in NO_RATIOS:
            self.assertIs(is_ratio(thing), False, thing)

    def test_nought_has_bottom_1(self):
        self.assertIs(is_ratio((0, 1)), True)
        self.assertIs(is_ratio((0, 2)), False)
        self.assertIs(is_ratio((0, 0)), False)

    def test_truths_in_either_place(self):
        for truth in [True, False]:
            for whole in [0, 1, 2, 5]:
                self.assertIs(is_ratio((truth, whole)), False)
                self.assertIs(is_ratio((whole, truth)), False)

    def test_what_is_looked_at_is_not_changed(self):
        for thing in NO_RATIOS:
            before = copy.deepcopy(thing)
            is_ratio(thing)
            self.assertEqual(thing, before)


class Ratio(unittest.TestCase):
    def test_lowest_terms(self):
        for top in range(-20, 21):
            for bottom in list(range(-20, 0)) + list(range(1, 21)):
                told = ratio(top, bottom)
                self.assertEqual(told, pair(Fraction(top, bottom)))
                self.assertIs(type(told), tuple)
                self.assertTrue(is_ratio(told))

    def test_known_ones(self):
        self.assertEqual(ratio(6, 4), (3, 2))
        self.assertEqual(ratio(6, -4), (-3, 2))
        self.assertEqual(ratio(-6, -4), (3, 2))
        self.assertEqual(ratio(0, -7), (0, 1))
        self.assertEqual(ratio(0, 7), (0, 1))

    def test_the_bottom_left_out(self):
        self.assertEqual(ratio(5), (5, 1))
        self.assertEqual(ratio(0), (0, 1))
        self.assertEqual(ratio(-GREAT), (-GREAT, 1))

    def test_great_numbers(self):
        self.assertEqual(ratio(GREAT, -GREAT), (-1, 1))
        self.assertEqual(ratio(GREAT, 10 ** 199), (10, 1))
        self.assertEqual(ratio(6 * 10 ** 199, 4 * 10 ** 199), (3, 2))
        self.assertEqual(ratio(GREAT - 1, GREAT), (GREAT - 1, GREAT))
        self.assertEqual(ratio(3 ** 400, 3 ** 399 * 2), (3, 2))

    def test_a_bottom_of_0(self):
        for top in [0, 1, -1, GREAT]:
            with self.assertRaises(NoRatio):
                ratio(top, 0)

    def test_what_is_no_whole_number(self):
        for thing in NO_WHOLES:
            for ask in [lambda: ratio(thing), lambda: ratio(thing, 1), lambda: ratio(1, thing),
                        lambda: ratio(thing, 0), lambda: ratio(0, thing), lambda: ratio(thing, thing)]:
                with self.assertRaises(NoRatio) as caught:
                    ask()
                self.assertIs(type(caught.exception), NoRatio)


class Simplest(unittest.TestCase):
    def check(self, low, high, due):
        """On both sides of 0; of bottom 1, too, nearest to 0 is the mirrored one."""
        self.assertEqual(simplest(low, high), due)
        self.assertEqual(simplest((-high[0], high[1]), (-low[0], low[1])), (-due[0], due[1]))

    def test_known_ones(self):
        self.check((1, 3), (1, 2), (2, 5))
        self.check((0, 1), (1, 1), (1, 2))
        self.check((1, 1), (2, 1), (3, 2))
        self.check((1, 2), (7, 2), (1, 1))
        self.check((5, 1), (9, 1), (6, 1))
        self.check((5, 1), (6, 1), (11, 2))
        self.check((0, 1), (1, 9), (1, 10))
        self.check((0, 1), (5, 1), (1, 1))
        self.check((-1, 2), (1, 3), (0, 1))
        self.check((-5, 1), (7, 1), (0, 1))
        self.check((-1, 1), (0, 1), (-1, 2))
        self.check((-4, 1), (0, 1), (-1, 1))

    def test_all_small_ones(self):
        numbers = sorted({Fraction(top, bottom) for bottom in range(1, 8) for top in range(-3 * bottom, 3 * bottom + 1)})
        for at, low in enumerate(numbers):
            for high in numbers[at + 1:]:
                told = simplest(pair(low), pair(high))
                self.assertEqual(told, pair(slow_simplest(low, high)), (low, high))
                self.assertIs(type(told), tuple)

    def test_far_from_0(self):
        source = seeded("far")
        for turn in range(300):
            low = Fraction(source.randint(-9999, 9999), source.randint(1, 99))
            high = low + Fraction(source.randint(1, 99), source.randint(1, 999))
            self.assertEqual(simplest(pair(low), pair(high)), pair(slow_simplest(low, high)))

    def test_neighbours_of_200_figures(self):
        # Where bottom times top less top times bottom is 1, the sum of tops over the sum of bottoms is the simplest.
        one, other = (0, 1), (1, 1)
        while one[1] + other[1] < GREAT:
            one, other = other, (one[0] + other[0], one[1] + other[1])
        low, high = sorted([one, other], key=lambda thing: Fraction(*thing))
        self.check(low, high, (one[0] + other[0], one[1] + other[1]))
        self.check((GREAT - 1, GREAT), (1, 1), (GREAT, GREAT + 1))
        self.check((0, 1), (1, GREAT), (1, GREAT + 1))
        self.check((GREAT - 1, 1), (GREAT, 1), (2 * GREAT - 1, 2))
        self.check((1, GREAT), (1, GREAT - 1), (2, 2 * GREAT - 1))

    def test_close_around_a_known_one(self):
        # None of a bottom up to this one lies as close to it as 1 divided by the square of its bottom.
        source = seeded("close")
        for turn in range(50):
            due = Fraction(source.randint(-10 ** 95, 10 ** 95), source.randint(2, 10 ** 90))
            low = due - Fraction(1, due.denominator * source.randint(due.denominator + 1, 10 ** 100))
            high = due + Fraction(1, due.denominator * source.randint(due.denominator + 1, 10 ** 100))
            self.assertEqual(simplest(pair(low), pair(high)), pair(due))

    def test_ends_wide_apart_with_200_figures(self):
        self.check((GREAT - 1, GREAT), (GREAT, 3), (1, 1))
        self.check((GREAT - 1, 1), (GREAT + 1, 1), (GREAT, 1))
        self.check((1, GREAT), (GREAT, 1), (1, 1))
        self.assertEqual(simplest((-GREAT, 1), (GREAT, 1)), (0, 1))
        self.assertEqual(simplest((-1, GREAT), (1, GREAT)), (0, 1))

    def test_what_was_told_may_be_handed_in(self):
        low, high = (1, 3), (1, 2)
        for turn in range(30):
            middle = simplest(low, high)
            self.assertTrue(is_ratio(middle))
            self.assertTrue(Fraction(*low) < Fraction(*middle) < Fraction(*high))
            low, high = (middle, high) if turn % 2 else (low, middle)

    def test_what_is_no_fraction(self):
        for thing in NO_RATIOS:
            for low, high in [(thing, (1, 2)), ((1, 2), thing), (thing, thing), (thing, (-GREAT, 1)),
                              ((GREAT, 1), thing)]:
                with self.assertRaises(NoRatio) as caught:
                    simplest(low, high)
                self.assertIs(type(caught.exception), NoRatio)

    def test_no_ratio_goes_ahead_of_nothing_between(self):
        for low, high in [((3, 1), (2, 4)), ((4, 2), (1, 1)), ((1, 1), (1, True)), ((2, 2), (2, 2))]:
            with self.assertRaises(NoRatio):
                simplest(low, high)

    def test_nothing_between(self):
        for low, high in [((1, 2), (1, 2)), ((0, 1), (0, 1)), ((1, 2), (1, 3)), ((1, 2), (-1, 2)), ((0, 1), (-1, 1)),
                          ((-1, 3), (-1, 2)), ((1, 1), (0, 1)), ((GREAT, 1), (GREAT, 1)),
                          ((1, GREAT - 1), (1, GREAT)), ((-GREAT + 1, GREAT), (-1, 1))]:
            with self.assertRaises(NothingBetween) as caught:
                simplest(low, high)
            self.assertIs(type(caught.exception), NothingBetween)

    def test_what_is_refused_is_not_changed(self):
        thing = nested(24, list)
        before = copy.deepcopy(thing)
        with self.assertRaises(NoRatio):
            simplest(thing, thing)
        self.assertEqual(thing, before)

    def test_the_same_asked_again(self):
        self.assertEqual([simplest((1, 3), (1, 2)) for turn in range(3)], [(2, 5)] * 3)


if __name__ == "__main__":
    unittest.main()
