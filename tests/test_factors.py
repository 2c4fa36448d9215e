"""[10], and [2] and [5] where they touch factors."""

import copy
import itertools
import unittest
from math import gcd, isqrt, prod

from things import GREAT, NO_POLYS, from_roots, seeded, slow_division, slow_plain, slow_product, slow_value, some_poly

from trueroots.chains import chain
from trueroots.errors import NoPoly
from trueroots.factors import GREAT_PRIME, bound_of, factors, is_single

# The single polynomials whose products are x ** n - 1, by n.
CIRCLES = {
    1: (-1, 1), 2: (1, 1), 3: (1, 1, 1), 4: (1, 0, 1), 5: (1,) * 5, 6: (1, -1, 1), 7: (1,) * 7, 8: (1, 0, 0, 0, 1),
    9: (1, 0, 0, 1, 0, 0, 1), 10: (1, -1, 1, -1, 1), 11: (1,) * 11, 12: (1, 0, -1, 0, 1),
}
# The least polynomial of the sum of the square roots of 2, 3 and 5.
THREE_ROOTS = (576, 0, -960, 0, 352, 0, -40, 0, 1)


def is_square(number):
    """Whether a whole number is the square of another one."""
    return number >= 0 and isqrt(number) ** 2 == number


def two_roots(one, other):
    """The polynomial of all sums of a square root of one and one of other: single, where none is a square, nor both."""
    return ((one - other) ** 2, 0, -2 * (one + other), 0, 1)


def in_order(pairs):
    """Shorter ones first, those of one length in order as tuples."""
    return sorted(pairs, key=lambda pair: (len(pair[0]), pair[0]))


def eisenstein(source, degree, bound):
    """A single polynomial: a prime divides all coefficients but the last, its square not the first."""
    while True:
        prime = source.choice([2, 3, 5, 7, 11])
        poly = [prime * source.randint(-bound, bound) for at in range(degree)] + [source.randint(1, bound)]
        if poly[0] % (prime * prime) != 0 and poly[-1] % prime != 0 and gcd(*poly) == 1:
            return tuple(poly)


def divisors(number):
    """All whole numbers that divide a number, not 0, on both sides of 0."""
    found = [each for each in range(1, abs(number) + 1) if number % each == 0]
    return found + [-each for each in found]


def slow_divisor(poly):
    """In Kronecker's way a plain divisor of least degree above 0 and below that of the polynomial; None, or that."""
    for degree in range(1, (len(poly) - 1) // 2 + 1):
        points = sorted(range(-3, 4), key=lambda point: abs(slow_value(poly, point)))[:degree + 1]
        for point in points:
            if slow_value(poly, point) == 0:
                return (-point, 1)
        for values in itertools.product(*[divisors(int(slow_value(poly, point))) for point in points]):
            found = through(points, values)
            if len(found) == degree + 1 and not slow_division(poly, found)[1]:
                return slow_plain(found)
    return None


def through(points, values):
    """The coefficients, fractions, of the polynomial with these values, by Lagrange."""
    outcome = [0] * len(points)
    for point, value in zip(points, values):
        others = [each for each in points if each != point]
        part = slow_product(*[(-other, 1) for other in others])
        scale = slow_value((value,), 0) / prod([point - other for other in others])
        outcome = [number + scale * each for number, each in zip(outcome, part)]
    while outcome and outcome[-1] == 0:
        outcome.pop()
    return outcome


def slow_factors(poly):
    """The pairs of a plain polynomial in Kronecker's way."""
    singles = []
    rest = [poly] if len(poly) > 1 else []
    while rest:
        each = rest.pop()
        found = slow_divisor(each)
        if found is None:
            singles.append(each)
        else:
            rest.extend([found, slow_plain(slow_division(each, found)[0])])
    return in_order([(single, singles.count(single)) for single in set(singles)])


class Factors(unittest.TestCase):
    def holds(self, poly, part, pairs):
        told = factors(poly)
        self.assertEqual(told, (part, in_order(pairs)), poly)
        self.assertIs(type(told), tuple)
        self.assertIs(type(told[1]), list)
        self.assertIs(is_single(poly), part == 1 and pairs == [(poly, 1)], poly)

    def product_holds(self, part, pairs):
        """The pairs, each a single polynomial, come out of their product."""
        poly = slow_product((part,), *[single for single, many in pairs for turn in range(many)])
        self.holds(poly, part, pairs)

    def test_by_hand(self):
        self.assertEqual(factors((-1, 0, 1)), (1, [((-1, 1), 1), ((1, 1), 1)]))
        self.assertEqual(factors((1, 0, 1)), (1, [((1, 0, 1), 1)]))
        self.assertEqual(factors((0, 0, -6, 6)), (6, [((-1, 1), 1), ((0, 1), 2)]))
        self.assertEqual(factors((0, 0, 6, -6)), (-6, [((-1, 1), 1), ((0, 1), 2)]))
        self.assertEqual(factors((4, 0, 0, 0, 1)), (1, [((2, -2, 1), 1), ((2, 2, 1), 1)]))
        self.assertEqual(factors((1, 4, 4)), (1, [((1, 2), 2)]))
        self.assertEqual(factors((2, 5, 2)), (1, [((1, 2), 1), ((2, 1), 1)]))

    def test_numbers_alone(self):
        for number in [1, -1, 2, -2, 60, GREAT, -GREAT]:
            self.holds((number,), number, [])

    def test_lines(self):
        self.holds((0, 1), 1, [((0, 1), 1)])
        self.holds((0, -1), -1, [((0, 1), 1)])
        self.holds((6, -4), -2, [((-3, 2), 1)])
        self.holds((GREAT, GREAT - 1), 1, [((GREAT, GREAT - 1), 1)])
        self.holds((GREAT, -GREAT), -GREAT, [((-1, 1), 1)])

    def test_the_order_of_the_pairs(self):
        singles = [(-5, 1), (-3, 2), (-1, 1), (0, 1), (1, 1), (1, 2), (-2, 0, 1), (1, 0, 1), (1, 1, 1), (-2, 0, 0, 1)]
        source = seeded("order")
        for turn in range(20):
            chosen = []
            for single in source.sample(singles, 6):
                if sum([len(each) - 1 for each in chosen + [single]]) <= 12:
                    chosen.append(single)
            told = factors(slow_product(*chosen))[1]
            self.assertEqual([single for single, many in told], [each for each in singles if each in chosen])

    def test_known_singles_one_to_three_times(self):
        source = seeded("known singles")
        for turn in range(150):
            pairs = []
            room = 12
            while room > 0 and len(pairs) < 4:
                degree, many = source.randint(1, min(5, room)), source.randint(1, 3)
                single = eisenstein(source, degree, source.choice([2, 9, 1000, 10 ** 12]))
                if degree * many <= room and single not in [each for each, often in pairs]:
                    pairs.append((single, many))
                    room -= degree * many
                else:
                    room -= 1
            self.product_holds(source.choice([1, -1, 2, -30, 10 ** 9]), pairs)

    def test_x_to_the_n_less_1(self):
        for n in range(1, 13):
            poly = (-1,) + (0,) * (n - 1) + (1,)
            self.holds(poly, 1, [(CIRCLES[each], 1) for each in range(1, n + 1) if n % each == 0])
        for n, circle in CIRCLES.items():
            self.holds(circle, 1, [(circle, 1)])

    def test_x_to_the_4_and_a_number(self):
        for number in list(range(-100, 101)) + [4 * 81 * 81, 4 * 10 ** 40, 10 ** 40 + 1, -10 ** 40]:
            poly = (number, 0, 0, 0, 1)
            if number == 0:
                self.holds(poly, 1, [((0, 1), 4)])
            elif is_square(-number):
                root = isqrt(-number)
                deep = isqrt(root)
                pairs = [((root, 0, 1), 1)]
                pairs += [((-deep, 1), 1), ((deep, 1), 1)] if deep * deep == root else [((-root, 0, 1), 1)]
                self.holds(poly, 1, pairs)
            elif number % 4 == 0 and is_square(number // 4) and is_square(isqrt(number // 4)):
                root = isqrt(isqrt(number // 4))
                self.holds(poly, 1, [((2 * root * root, -2 * root, 1), 1), ((2 * root * root, 2 * root, 1), 1)])
            else:
                self.holds(poly, 1, [(poly, 1)])

    def test_singles_that_part_by_every_prime(self):
        some = [two_roots(one, other) for one, other in [(2, 3), (2, 5), (3, 5), (-1, 2), (-1, -3), (6, 7), (-7, 30)]]
        for single in some + [THREE_ROOTS]:
            self.product_holds(1, [(single, 1)])
        for one, other in itertools.combinations(some, 2):
            self.product_holds(1, [(one, 1), (other, 1)])
            self.product_holds(-2, [(one, 2), (other, 1)])
        for single in some:
            for many in [2, 3]:
                self.product_holds(1, [(single, many)])
            self.product_holds(3, [(THREE_ROOTS, 1), (single, 1)])
        self.product_holds(1, [(single, 1) for single in some[:3]])

    def test_degree_12_and_many_figures(self):
        source = seeded("great factors")
        for degrees in [[12], [6, 6], [1, 11], [5, 7], [4, 4, 4], [3, 3, 3, 3], [2] * 6, [1] * 12, [1, 2, 3, 6]]:
            bound = 10 ** (180 // len(degrees))
            singles = {eisenstein(source, degree, bound) for degree in degrees}
            self.assertEqual(len(singles), len(degrees))
            self.product_holds(source.choice([1, -1, 10 ** 9]), [(single, 1) for single in singles])
        single = eisenstein(source, 3, 10 ** 45)
        self.product_holds(1, [(single, 4)])
        half, quarter = 10 ** 100, 10 ** 50
        self.product_holds(1, [((-quarter, 0, 0, 1), 1), ((quarter, 0, 0, 1), 1), ((half, 0, 0, 0, 0, 0, 1), 1)])

    def test_factors_of_like_and_unlike_size(self):
        self.product_holds(1, [((-GREAT // 10 ** 40, 1), 1), ((-1, 10 ** 20), 1), ((1, 1, 1), 2)])
        self.product_holds(1, [((-(10 ** 90), 1), 1), ((-(10 ** 90) - 1, 1), 1)])
        self.product_holds(-1, [((-(10 ** 60), 0, 0, 7), 1), ((10 ** 60, 0, 0, 7), 1), ((0, 1), 3)])

    def test_last_coefficients_that_many_primes_divide(self):
        small = prod([number for number in range(2, 480) if all(number % each for each in range(2, number))])
        self.assertLess(small, GREAT)
        self.product_holds(1, [((1, small), 1), ((1, 1, 1), 1)])
        self.product_holds(1, [((1, 0, small), 1)])
        # Two roots that leave the same by each of these primes.
        self.product_holds(1, [((0, 1), 1), ((small, 1), 1)])
        self.product_holds(1, [((1, 0, 1), 1), ((1 + small, 0, 1), 1)])

    def test_roots_that_meet_by_the_prime_that_is_asked_first(self):
        prime = GREAT_PRIME
        one, other = (-2, 0, 1), (-2 - prime, 0, 1)
        for pairs in [[((0, 1), 1), ((-prime, 1), 1)], [((-1, prime), 1), ((0, 1), 1)], [(one, 1), (other, 1)],
                      [(one, 2), (other, 1)], [((0, 1), 3), ((prime, 1), 2), (one, 1)], [((-1, 0, prime), 2), (one, 1)],
                      [(one, 3)], [((0, 1), 1), (one, 1)]]:
            for part in [1, -6, prime]:
                self.product_holds(part, in_order(pairs))

    def test_the_bound_is_above_all_factors(self):
        # Some of these have greater coefficients than the polynomial itself.
        for scale in [1, 10 ** 6]:
            poly = slow_product((scale,), (-1,) + (0,) * 11 + (1,))
            lines = [CIRCLES[each] for each in [1, 2, 3, 4, 6, 12]]
            for many in range(7):
                for chosen in itertools.combinations(lines, many):
                    part = slow_product((scale,), *chosen)
                    self.assertGreater(bound_of(poly), 2 * max([abs(number) for number in part]))

    def test_against_kronecker(self):
        source = seeded("kronecker")
        for turn in range(250):
            poly = slow_plain(some_poly(source, source.randint(1, 5), source.choice([1, 2, 4])))
            self.holds(poly, 1, slow_factors(poly))
        for turn in range(100):
            poly = slow_plain(slow_product(some_poly(source, 2, 2), some_poly(source, 2, 2), some_poly(source, 1, 2)))
            self.holds(poly, 1, slow_factors(poly))

    def test_the_product_of_what_was_told_is_the_polynomial(self):
        source = seeded("products")
        for turn in range(150):
            poly = some_poly(source, source.randint(0, 12), source.choice([1, 3, 50, 10 ** 15]))
            part, pairs = factors(poly)
            self.assertEqual(slow_product((part,), *[each for each, many in pairs for turn in range(many)]), poly)
            for single, many in pairs:
                self.assertEqual(factors(single), (1, [(single, 1)]))
                self.assertIs(is_single(single), True)

    def test_whatever_was_told_may_be_handed_in(self):
        row = chain(some_poly(seeded("told"), 12, GREAT))[5]
        part, pairs = factors(row)
        self.assertEqual(slow_product((part,), *[each for each, many in pairs for turn in range(many)]), row)

    def test_a_new_list_each_time(self):
        told = factors((-1, 0, 1))[1]
        told.append("x")
        told[0] = ()
        self.assertEqual(factors((-1, 0, 1)), (1, [((-1, 1), 1), ((1, 1), 1)]))

    def test_the_same_asked_again(self):
        poly = from_roots(1, 2, 3, 4)
        self.assertEqual(factors(poly), factors(poly))


class IsSingle(unittest.TestCase):
    SINGLES = [(0, 1), (1, 1), (-3, 2), (-2, 0, 1), (1, 0, 1), (-2, 0, 0, 1), (1, 0, -10, 0, 1), (1,) * 13, THREE_ROOTS,
               (-2,) + (0,) * 11 + (1,), (-GREAT - 1, GREAT)]

    def test_single_ones(self):
        for single in self.SINGLES:
            self.assertIs(is_single(single), True)

    def test_opposites_and_multiples(self):
        for single in self.SINGLES:
            for number in [-1, 2, -2, 15]:
                self.assertIs(is_single(tuple([number * part for part in single])), False)

    def test_powers_and_products(self):
        for single in self.SINGLES:
            if len(single) < 6:
                self.assertIs(is_single(slow_product(single, single)), False)
                self.assertIs(is_single(slow_product(single, (0, 1))), False)
                self.assertIs(is_single(slow_product(single, (7, 0, 1))), False)

    def test_numbers_alone_and_nought(self):
        for number in [1, -1, 2, -7, GREAT]:
            self.assertIs(is_single((number,)), False)
        self.assertIs(is_single(()), False)


class Refusals(unittest.TestCase):
    def refused(self, ask, thing):
        before = copy.deepcopy(thing)
        with self.assertRaises(NoPoly) as caught:
            ask(thing)
        self.assertIs(type(caught.exception), NoPoly)
        self.assertEqual(thing, before)

    def test_what_is_no_polynomial(self):
        for thing in NO_POLYS:
            self.refused(factors, thing)
            self.refused(is_single, thing)

    def test_nought(self):
        self.refused(factors, ())


if __name__ == "__main__":
    unittest.main()
