"""[11], and [2] and [5] where they touch the parts by a prime."""

import copy
import itertools
import unittest

from things import GREAT, NO_POLYS, NO_WHOLES, nested, seeded, slow_product, some_poly

from trueroots.errors import Folds, NoPoly, NoPrime
from trueroots.modular import parts_by

PRIMES = [2, 3, 5, 7, 11, 13, 17, 19, 23, 29, 31, 37, 41, 43, 47, 53, 59, 61, 67, 71, 73, 79, 83, 89, 97]
NO_PRIMES = NO_WHOLES + [number for number in range(-10, 98) if number not in PRIMES] + [
    98, 99, 100, 101, 103, 997, 10 ** 15, -2, -3, -97, GREAT, 97 * 97, "2", "97", [2], (2,), (97,), nested(24, list)]


def left(poly, prime):
    """What the coefficients leave, noughts at the end taken off."""
    numbers = [number % prime for number in poly]
    while numbers and numbers[-1] == 0:
        numbers.pop()
    return tuple(numbers)


def slow_rest(high, low, prime):
    """The rest by the prime of a division by low, which ends in 1."""
    rest = list(left(high, prime))
    while len(rest) >= len(low):
        number, at = rest[-1], len(rest) - len(low)
        rest = list(left([part - number * (low[by - at] if by >= at else 0) for by, part in enumerate(rest)], prime))
    return rest


def ended(prime, length):
    """All that end in 1 and have that length."""
    return [numbers + (1,) for numbers in itertools.product(range(prime), repeat=length - 1)]


def has_parts(poly, prime):
    """Whether one that ends in 1 is, by the prime, the product of two of length 2 or more: by trying all."""
    for length in range(2, (len(poly) - 1) // 2 + 2):
        if any(not slow_rest(poly, low, prime) for low in ended(prime, length)):
            return True
    return False


def parts_of_length(prime, length):
    """All parts of that length, by trying all."""
    return [poly for poly in ended(prime, length) if not has_parts(poly, prime)]


def in_order(parts):
    """Shorter ones first, those of one length in order."""
    return sorted(parts, key=lambda part: (len(part), part))


class PartsBy(unittest.TestCase):
    def holds(self, poly, prime, due):
        told = parts_by(poly, prime)
        self.assertEqual(told, due, (poly, prime))
        self.assertIs(type(told), list)
        for part in told:
            self.assertIs(type(part), tuple)
            self.assertEqual(part[-1], 1)

    def folds(self, poly, prime):
        with self.assertRaises(Folds) as caught:
            parts_by(poly, prime)
        self.assertIs(type(caught.exception), Folds)

    def test_by_hand(self):
        self.holds((-1, 0, 1), 3, [(1, 1), (2, 1)])
        self.holds((1, 0, 1), 3, [(1, 0, 1)])
        self.holds((1, 0, 1), 5, [(2, 1), (3, 1)])
        self.holds((1, 1, 1), 2, [(1, 1, 1)])
        self.holds((0, 1, 1), 2, [(0, 1), (1, 1)])
        self.holds((1, 0, 0, 0, 1), 3, [(2, 1, 1), (2, 2, 1)])
        self.holds((-1, 0, 0, 1), 2, [(1, 1), (1, 1, 1)])
        self.holds((3, 2), 5, [(4, 1)])
        self.holds((0, -1), 97, [(0, 1)])
        self.holds((1, 1, 0, 0, 0, 0, 0, 1), 2, [(1, 1, 0, 0, 0, 0, 0, 1)])

    def test_all_primes(self):
        for prime in PRIMES:
            self.holds((5, 1), prime, [(5 % prime, 1)])
            numbers = list(range(min(prime, 12)))
            poly = slow_product(*[(-number, 1) for number in numbers])
            self.holds(poly, prime, sorted([(-number % prime, 1) for number in numbers]))

    def test_parts_of_degree_2_by_all_primes(self):
        for prime in PRIMES[1:]:
            squares = [number * number % prime for number in range(prime)]
            for number in range(1, prime):
                roots = [root for root in range(prime) if squares[root] == number]
                due = sorted([(-root % prime, 1) for root in roots]) if roots else [(-number % prime, 0, 1)]
                self.holds((-number, 0, 1), prime, due)

    def test_all_small_ones(self):
        # All that end in 1, of degree up to 6 by 2 and up to 4 by 3, against trying all.
        for prime, most in [(2, 7), (3, 5), (5, 4)]:
            singles = [part for length in range(2, most + 1) for part in parts_of_length(prime, length)]
            due = {}
            for many in range(1, most):
                for chosen in itertools.combinations(singles, many):
                    if sum([len(part) - 1 for part in chosen]) < most:
                        due[left(slow_product(*chosen), prime)] = in_order(chosen)
            for length in range(2, most + 1):
                for poly in ended(prime, length):
                    if poly in due:
                        self.holds(poly, prime, due[poly])
                    else:
                        self.folds(poly, prime)

    def test_products_of_known_parts(self):
        source = seeded("known parts")
        for prime, length in [(2, 7), (3, 5), (5, 4), (7, 4), (11, 3), (13, 3)]:
            known = [part for each in range(2, length + 1) for part in parts_of_length(prime, each)]
            for turn in range(40):
                chosen = []
                for part in source.sample(known, min(len(known), 8)):
                    if sum([len(each) - 1 for each in chosen + [part]]) <= 12:
                        chosen.append(part)
                last = source.choice([number for number in range(1, prime)])
                poly = slow_product((last,), *chosen)
                # Numbers that leave the same, on both sides of 0 and great ones.
                poly = tuple([number + prime * source.randint(-GREAT // prime, GREAT // prime) for number in poly])
                self.holds(poly, prime, in_order(chosen))

    def test_parts_of_like_degree(self):
        for prime, length in [(2, 5), (2, 6), (3, 3), (3, 4), (5, 3), (7, 3), (2, 2), (5, 2), (11, 2)]:
            known = parts_of_length(prime, length)
            while (len(known)) * (length - 1) > 12:
                known.pop()
            self.holds(slow_product(*known), prime, known)

    def test_degree_12(self):
        self.holds((1,) * 13, 2, [(1,) * 13])
        divisors = [part for part in parts_of_length(3, 4) if not slow_rest((1,) * 13, part, 3)]
        self.assertEqual(len(divisors), 4)
        self.holds((1,) * 13, 3, divisors)

    def test_lines_and_squares_by_greater_primes(self):
        source = seeded("greater primes")
        for prime in PRIMES[4:]:
            squares = [number * number % prime for number in range(prime)]
            others = [number for number in range(prime) if number not in squares]
            for turn in range(5):
                many = source.randint(1, 5)
                pairs = {(source.randrange(prime), source.choice(others)) for each in range(many)}
                chosen = [((by * by - other) % prime, 2 * by % prime, 1) for by, other in pairs]
                chosen += [(number, 1) for number in source.sample(range(prime), 12 - 2 * many)]
                poly = slow_product((source.randint(1, prime - 1),), *chosen)
                poly = tuple([number - prime * source.randint(0, GREAT // prime) for number in poly])
                self.holds(poly, prime, in_order(chosen))

    def test_x_to_the_prime_less_x_splits_into_lines(self):
        for prime in [2, 3, 5, 7, 11]:
            poly = [0] * (prime + 1)
            poly[1], poly[prime] = -1, 1
            self.holds(tuple(poly), prime, [(number, 1) for number in range(prime)])

    def test_folds_where_the_prime_divides_the_last_coefficient(self):
        for prime in PRIMES:
            self.folds((1, 1, prime), prime)
            self.folds((1, -prime), prime)
            self.folds((1, 2, 3, -6 * prime), prime)
            self.folds((prime,), prime)
            self.folds((1, prime * 10 ** 30), prime)

    def test_folds_at_degree_0(self):
        for prime in PRIMES:
            for number in [1, -1, 5, GREAT, prime, prime + 1]:
                self.folds((number,), prime)

    def test_folds_where_a_part_would_come_twice(self):
        for prime in PRIMES:
            self.folds((0, 0, 1), prime)
            self.folds(slow_product((3, 1), (3 + prime, 1)), prime)
            self.folds(slow_product((3, 1), (3 - 5 * prime, 1), (1, 1, 1)), prime)
            self.folds((-prime, 0, 0, 1), prime)
        # Their derivatives are nought by the prime.
        self.folds((1, 0, 1), 2)
        self.folds((1, 0, 0, 1), 3)
        self.folds((2, 0, 0, 0, 0, 1), 5)
        self.folds((1, 0, 1, 0, 1), 2)
        self.folds(slow_product((1, 1, 1), (1, 1, 1)), 2)
        self.folds(slow_product((1, 0, 1), (1, 0, 1), (1, 1)), 3)

    def test_a_new_list_each_time(self):
        told = parts_by((-1, 0, 1), 3)
        told.append((5, 1))
        told[0] = ()
        self.assertEqual(parts_by((-1, 0, 1), 3), [(1, 1), (2, 1)])


class Refusals(unittest.TestCase):
    def refused(self, error, *handed):
        before = copy.deepcopy(handed)
        with self.assertRaises(error) as caught:
            parts_by(*handed)
        self.assertIs(type(caught.exception), error, handed)
        self.assertEqual(handed, before)

    def test_what_is_no_prime(self):
        for thing in NO_PRIMES:
            self.refused(NoPrime, (-1, 0, 1), thing)
            # Ahead of Folds.
            self.refused(NoPrime, (5,), thing)
            self.refused(NoPrime, (0, 0, 202), thing)

    def test_what_is_no_polynomial_goes_first(self):
        for thing in NO_POLYS + [()]:
            for prime in [2, 97]:
                self.refused(NoPoly, thing, prime)
            for other in [1, 0, 4, 101, True, None, "2", [2], ()]:
                self.refused(NoPoly, thing, other)


if __name__ == "__main__":
    unittest.main()
