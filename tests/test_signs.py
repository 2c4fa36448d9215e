"""[17]: sign_at, cells and sign_rows."""

import unittest
from fractions import Fraction

from nearby import CUBE_2, FAR_MORE, GOLDEN, QUARTIC, SQUARE_2, SQUARE_3, THREE, kept, refused, sample, side_at
from nearby import slow_roots, square_root, worth
from things import GREAT, NO_POLYS, ODD_THINGS, from_roots, pair_of, seeded, slow_product, some_poly

from trueroots.errors import NoPoly
from trueroots.reals import number, root, roots
from trueroots.signs import cells, sign_at, sign_rows

HALF = Fraction(1, 2)


def sign(number_of):
    return (number_of > 0) - (number_of < 0)


class SignAt(unittest.TestCase):
    def test_at_fractions(self):
        source = seeded("at fractions")
        for turn in range(200):
            poly = some_poly(source, source.randint(0, 12), 9)
            at = Fraction(source.randint(-20, 20), source.randint(1, 9))
            self.assertEqual(sign_at(poly, number(*pair_of(at))), sign(side_at(poly, at)))

    def test_at_others(self):
        source = seeded("at others")
        for real in sample():
            for turn in range(6):
                poly = some_poly(source, source.randint(0, 12), 9)
                near = sum([part * worth(real) ** at for at, part in enumerate(poly)], Fraction(0))
                self.assertTrue(abs(near) > FAR_MORE or (near == 0 and len(real.poly) == 2))
                self.assertEqual(sign_at(poly, real), sign(near))
                self.assertIs(type(sign_at(poly, real)), int)

    def test_at_roots(self):
        for real in sample():
            self.assertEqual(sign_at(real.poly, real), 0)
            if len(real.poly) < 12:
                self.assertEqual(sign_at(slow_product(real.poly, (-7, 3)), real), 0)
                self.assertEqual(sign_at(slow_product(real.poly, (-6,)), real), 0)
            self.assertEqual(sign_at((), real), 0)
            self.assertEqual((sign_at((5,), real), sign_at((-5,), real)), (1, -1))

    def test_close_by(self):
        two = square_root(2)
        for scale in [10, 10 ** 30, GREAT]:
            self.assertEqual(sign_at((-2 * scale - 1, 0, scale), two), -1)
            self.assertEqual(sign_at((1 - 2 * scale, 0, scale), two), 1)
            self.assertEqual(sign_at((-2 * scale, 0, scale), two), 0)
        # Convergents: lines that are almost 0 there.
        one, other = 1, 1
        for turn in range(150):
            one, other = one + 2 * other, one + other
            due = 1 if one * one > 2 * other * other else -1
            self.assertEqual((sign_at((one, -other), two), sign_at((one, other), two)), (due, 1))
            self.assertEqual(sign_at((-one, other), number(one, other)), 0)

    def test_a_factor_with_another_root(self):
        # The square root of 3 is a root of the product, that of 2 too, and the others are not.
        poly = slow_product(SQUARE_2, SQUARE_3)
        self.assertEqual([sign_at(poly, square_root(many)) for many in (2, 3, 5, 6)], [0, 0, 1, 1])
        self.assertEqual(sign_at(poly, number(3, 2)), -1)

    def test_refusals(self):
        for thing in NO_POLYS:
            refused(self, NoPoly, sign_at, thing, square_root(2))
            refused(self, NoPoly, sign_at, thing, number(1))


class Cells(unittest.TestCase):
    def test_by_hand(self):
        self.assertEqual(cells([]), [])
        self.assertEqual(cells([(), (5,), (-1,), (1, 0, 1)]), [])
        self.assertEqual(kept(cells([SQUARE_2])), [(SQUARE_2, 0), (SQUARE_2, 1)])
        self.assertEqual(kept(cells([SQUARE_2, (0, 1), (), (3,)])), [(SQUARE_2, 0), ((0, 1), 0), (SQUARE_2, 1)])
        self.assertEqual(kept(cells([SQUARE_3, SQUARE_2, SQUARE_3])),
                         [(SQUARE_3, 0), (SQUARE_2, 0), (SQUARE_2, 1), (SQUARE_3, 1)])

    def test_roots_in_common(self):
        one, other = slow_product(SQUARE_2, from_roots(1)), slow_product((-3,), SQUARE_2, from_roots(2, HALF))
        self.assertEqual(kept(cells([one, other])),
                         [(SQUARE_2, 0), ((-1, 2), 0), ((-1, 1), 0), (SQUARE_2, 1), ((-2, 1), 0)])
        self.assertEqual(cells([one, one, one]), cells([one]))

    def test_against_halving(self):
        source = seeded("cells")
        for turn in range(15):
            polys = [some_poly(source, source.randint(0, 6), 4) for part in range(source.randint(1, 6))] + [()]
            found = cells(polys)
            near = sorted([each for poly in polys if poly for each in slow_roots(poly)])
            near = [each for at, each in enumerate(near) if at == 0 or each - near[at - 1] > FAR_MORE]
            self.assertEqual(len(found), len(near))
            for real, each in zip(found, near):
                self.assertLess(abs(worth(real) - each), FAR_MORE)

    def test_near_each_other(self):
        close = (-2 * GREAT - 1, 0, GREAT)
        self.assertEqual(kept(cells([close, SQUARE_2])), [(close, 0), (SQUARE_2, 0), (SQUARE_2, 1), (close, 1)])

    def test_many_polynomials(self):
        polys = [(-many, 0, 1) for many in range(40)]
        found = cells(polys)
        self.assertEqual(found, [square_root(many).opposite() for many in range(39, 0, -1)] + [number(0)]
                         + [square_root(many) for many in range(1, 40)])

    def test_a_new_list_each_time(self):
        polys = [SQUARE_2, (0, 1)]
        found = cells(polys)
        found.clear()
        self.assertEqual(len(cells(polys)), 3)
        rows = sign_rows(polys)
        rows.clear()
        self.assertEqual(len(sign_rows(polys)), 7)
        self.assertEqual(polys, [SQUARE_2, (0, 1)])


class SignRows(unittest.TestCase):
    def test_no_cells(self):
        self.assertEqual(sign_rows([]), [()])
        self.assertEqual(sign_rows([()]), [(0,)])
        self.assertEqual(sign_rows([(5,), (), (-2,)]), [(1, 0, -1)])
        self.assertEqual(sign_rows([(1, 0, 1), (-1, 0, -1)]), [(1, -1)])

    def test_by_hand(self):
        self.assertEqual(sign_rows([(0, 1)]), [(-1,), (0,), (1,)])
        self.assertEqual(sign_rows([(0, -1)]), [(1,), (0,), (-1,)])
        self.assertEqual(sign_rows([(0, 0, 1)]), [(1,), (0,), (1,)])
        self.assertEqual(sign_rows([(0, 0, -7)]), [(-1,), (0,), (-1,)])
        self.assertEqual(sign_rows([(0, 0, 0, 1)]), [(-1,), (0,), (1,)])
        self.assertEqual(sign_rows([SQUARE_2]), [(1,), (0,), (-1,), (0,), (1,)])
        self.assertEqual(sign_rows([(0, 1), (), (-1, 1), (0, 1)]),
                         [(-1, 0, -1, -1), (0, 0, -1, 0), (1, 0, -1, 1), (1, 0, 0, 1), (1, 0, 1, 1)])

    def held(self, polys):
        """Against the signs at each cell, and at a fraction between each two."""
        found, rows = cells(polys), sign_rows(polys)
        self.assertIs(type(rows), list)
        self.assertEqual(len(rows), 2 * len(found) + 1)
        near = [worth(real) for real in found]
        stops = [near[0] - 1] + [(one + other) / 2 for one, other in zip(near, near[1:])] + [near[-1] + 1] if near \
            else [Fraction(0)]
        for at, stop in enumerate(stops):
            self.assertEqual(rows[2 * at], tuple([sign(side_at(poly, stop)) for poly in polys]))
        for at, real in enumerate(found):
            self.assertEqual(rows[2 * at + 1], tuple([sign_at(poly, real) for poly in polys]))
        for row in rows:
            self.assertIs(type(row), tuple)

    def test_against_signs_between(self):
        source = seeded("rows")
        for turn in range(15):
            polys = [some_poly(source, source.randint(0, 6), 4) for part in range(source.randint(1, 5))]
            self.held(polys + [(), polys[0]])

    def test_roots_in_common_and_more_than_once(self):
        for many in range(1, 5):
            poly = slow_product(*([SQUARE_2] * many), *([from_roots(1)] * (5 - many)), (-3,))
            self.held([poly, SQUARE_2, from_roots(1, 1), THREE, QUARTIC, GOLDEN, slow_product(poly[-1:], CUBE_2)])

    def test_near_each_other(self):
        close = (-2 * 10 ** 30 - 1, 0, 10 ** 30)
        self.held([close, SQUARE_2])
        self.assertEqual(sign_rows([close, SQUARE_2]),
                         [(1, 1), (0, 1), (-1, 1), (-1, 0), (-1, -1), (-1, 0), (-1, 1), (0, 1), (1, 1)])

    def test_tells_the_cells_apart(self):
        polys = [from_roots(*range(1, 7)), from_roots(*range(4, 10))]
        self.assertEqual(kept(cells(polys)), [((-at, 1), 0) for at in range(1, 10)])
        self.held(polys)
        self.assertEqual(roots(polys[0])[0], root(polys[0], 0))


class Refusals(unittest.TestCase):
    def test_the_first_that_is_no_polynomial(self):
        for ask in [cells, sign_rows]:
            for thing in NO_POLYS:
                refused(self, NoPoly, ask, [thing])
                refused(self, NoPoly, ask, [(), thing])
                refused(self, NoPoly, ask, [SQUARE_2, (5,), thing, SQUARE_2])
                refused(self, NoPoly, ask, [thing, None])

    def test_what_is_no_list(self):
        for ask in [cells, sign_rows]:
            for thing in [None, 5, "x", True, ()]:
                refused(self, NoPoly, ask, thing)
        self.assertIn(None, ODD_THINGS)


if __name__ == "__main__":
    unittest.main()
