"""Where the roots of single polynomials lie: what all reals stand on."""

import unittest
from fractions import Fraction

from nearby import CUBE_2, GOLDEN, NEARNESS, QUARTIC, SQUARE_2, THREE, side_at, slow_roots
from things import GREAT, seeded, slow_product, some_poly

from trueroots.factors import is_single
from trueroots.isolation import cells_of, narrowed, reach_of, worth_at


def singles():
    """Single polynomials of degree 2 and more: small ones, and with one great number in each place."""
    found = [SQUARE_2, GOLDEN, CUBE_2, THREE, QUARTIC, (1, 0, -10, 0, 1), (-5,) + (0,) * 11 + (1,), (-GREAT - 1, 0, 1)]
    for degree in [2, 3, 5]:
        for at in range(degree + 1):
            for great in [10 ** 30 + 7, -(10 ** 30) - 7, 2 ** 100 - 1, -(2 ** 100)]:
                poly = [3, 1, -1, 1, 1, 2][:degree] + [1]
                poly[at] = great
                found.append(tuple(poly))
    source = seeded("singles")
    for turn in range(60):
        found.append(some_poly(source, source.randint(2, 12), source.choice([2, 9, 1000])))
    positive = [poly if poly[-1] > 0 else tuple([-part for part in poly]) for poly in found]
    return [poly for poly in positive if is_single(poly)]


class Cells(unittest.TestCase):
    def test_all_roots_lie_within_the_reach(self):
        for poly in singles():
            for near in slow_roots(poly):
                self.assertLess(abs(near) + NEARNESS, 2 ** reach_of(poly), poly)
        # A bound that is almost reached: all coefficients but the last lie on one side.
        for degree in range(2, 13):
            poly = (-(2 ** 60) + 1,) * degree + (1,)
            self.assertLess(max(slow_roots(poly)), 2 ** reach_of(poly))

    def test_each_root_has_its_own_cell(self):
        for poly in singles():
            near, found = slow_roots(poly), cells_of(poly)
            self.assertEqual(len(found), len(near), poly)
            for (whole, bits), each in zip(found, near):
                self.assertGreaterEqual(bits, 0)
                low, high = Fraction(whole, 2 ** bits), Fraction(whole + 1, 2 ** bits)
                self.assertTrue(low < each + NEARNESS and each < high)
                self.assertLess(side_at(poly, low) * side_at(poly, high), 0)
                inside = [other for other in near if low < other + NEARNESS and other < high]
                self.assertEqual(inside, [each])

    def test_narrowed(self):
        for poly in singles()[:40]:
            for cell, each in zip(cells_of(poly), slow_roots(poly)):
                for bits in [0, 1, 7, 30, 64, 200]:
                    whole, own = narrowed(poly, cell, bits)
                    self.assertGreaterEqual(own, bits)
                    # No more than what the last leap brought beyond that.
                    self.assertLessEqual(own, max(cell[1], 2 * bits + 2))
                    low, high = Fraction(whole, 2 ** own), Fraction(whole + 1, 2 ** own)
                    self.assertLess(side_at(poly, low) * side_at(poly, high), 0)
                    self.assertTrue(low < each + NEARNESS and each < high + NEARNESS)

    def test_many_bits_are_found_in_few_leaps(self):
        for poly in [SQUARE_2, THREE, slow_product(QUARTIC, (1,))]:
            for cell in cells_of(poly):
                whole, own = narrowed(poly, cell, 100000)
                self.assertGreaterEqual(own, 100000)
                at_low, at_high = worth_at(poly, whole, own), worth_at(poly, whole + 1, own)
                self.assertNotEqual(at_low > 0, at_high > 0)

    def test_worth_at(self):
        source = seeded("worth")
        for turn in range(100):
            poly = some_poly(source, source.randint(0, 12), 50)
            whole, bits = source.randint(-1000, 1000), source.randint(0, 12)
            scale = 2 ** (bits * (len(poly) - 1))
            due = sum([part * Fraction(whole, 2 ** bits) ** at for at, part in enumerate(poly)])
            self.assertEqual(worth_at(poly, whole, bits), due * scale)


if __name__ == "__main__":
    unittest.main()
