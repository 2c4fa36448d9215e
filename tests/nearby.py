"""Roots of polynomials by plain halving with fractions: a second way to tell what a Real has to be."""

import copy
from fractions import Fraction

from things import GREAT, ODD_THINGS, slow_chain

from trueroots.factors import is_single
from trueroots.reals import Real, number, root, roots

# So near to its root each told one is; reals that the tests hold against each other differ by far more, if at all.
NEARNESS = Fraction(1, 10 ** 70)
FAR_MORE = Fraction(1, 10 ** 50)
KNOWN = {}

SQUARE_2 = (-2, 0, 1)
SQUARE_3 = (-3, 0, 1)
GOLDEN = (-1, -1, 1)
CUBE_2 = (-2, 0, 0, 1)
# Three real roots, none a fraction.
THREE = (1, -3, 0, 1)
# One real root, and others that are not real.
QUARTIC = (-1, -1, 0, 0, 1)

NO_PLACES = ODD_THINGS + [(), (0, 1), (1,), -1, -2, -GREAT, 12, 13, 10 ** 15, GREAT]


def side_at(poly, number):
    """A whole number that is below 0, 0 or above as the value at a fraction is."""
    total, scale = 0, 1
    for part in reversed(poly):
        total = total * number.numerator + part * scale
        scale *= number.denominator
    return total


def changes_at(rows, number):
    """The changes of sign in the values of a chain's rows at a fraction."""
    signs = [side > 0 for side in [side_at(row, number) for row in rows] if side != 0]
    return len([1 for one, other in zip(signs, signs[1:]) if one != other])


def halved(poly, rows, low, high):
    """The roots above low, up to high, each as a fraction near it."""
    many = changes_at(rows, low) - changes_at(rows, high)
    if many == 0:
        return []
    at_low, at_high = side_at(poly, low), side_at(poly, high)
    if many == 1 and at_low * at_high < 0:
        return [closed_in(poly, low, high)]
    middle = (low + high) / 2
    if many == 1 and at_high == 0:
        return [high]
    return halved(poly, rows, low, middle) + halved(poly, rows, middle, high)


def closed_in(poly, low, high):
    """A fraction near the one root between two at which the signs are unlike."""
    above = side_at(poly, high) > 0
    while high - low > NEARNESS:
        middle = (low + high) / 2
        side = side_at(poly, middle)
        if side == 0:
            return middle
        if (side > 0) == above:
            high = middle
        else:
            low = middle
    return low


def slow_roots(poly):
    """Fractions near all unlike real roots, the least first."""
    if poly not in KNOWN:
        rows = slow_chain(poly)
        first = rows[0]
        bound = 1
        while bound <= 1 + max([abs(part) for part in first]) // abs(first[-1]):
            bound *= 2
        KNOWN[poly] = halved(first, rows, Fraction(-bound), Fraction(bound))
    return list(KNOWN[poly])


def worth(real):
    """A fraction near a Real, by its poly and its place alone; it itself where it is a fraction."""
    if len(real.poly) == 2:
        return Fraction(-real.poly[0], real.poly[1])
    return slow_roots(real.poly)[real.place]


def well_made(test, real):
    """The thing is a Real that is kept as [12] tells."""
    test.assertIs(type(real), Real)
    test.assertIs(type(real.poly), tuple)
    test.assertIs(type(real.place), int)
    test.assertTrue(is_single(real.poly), real.poly)
    test.assertTrue(0 <= real.place)


def is_near(test, real, due):
    """The thing is a Real, well made, and near to what is due."""
    well_made(test, real)
    far = abs(worth(real) - due)
    test.assertLess(far, FAR_MORE * (1 + abs(due)), (str(real), due))


def kept(reals):
    """The polynomials and places of some Reals."""
    return [(real.poly, real.place) for real in reals]


def nth_near(number, many):
    """A fraction near the root of a fraction that is not below 0."""
    low, high = Fraction(0), Fraction(number) + 1
    while high - low > NEARNESS:
        middle = (low + high) / 2
        if middle ** many <= number:
            low = middle
        else:
            high = middle
    return low


def sample():
    """Reals of all kinds, each of them once."""
    found = [number(0), number(1), number(-1), number(7), number(-3, 4), number(22, 7), number(GREAT, 3)]
    for poly in [SQUARE_2, SQUARE_3, GOLDEN, CUBE_2, THREE, QUARTIC, (-8, 0, 1), (-5, 0, 3), (-1, -1, 0, 1),
                 (1, 0, -10, 0, 1), (-1, -1, 0, 0, 0, 1), (-7, 0, 0, 0, 0, 0, 1), (5, -1, 0, 0, 0, 0, 0, 0, -3),
                 (1, -6, 3, 9, -5, -1, 1), (-5,) + (0,) * 11 + (1,)]:
        found = found + roots(poly)
    return found


def refused(test, error, ask, *handed, **named):
    """The asking is refused with just that error, and what was handed in is as it was; the error is told."""
    before = copy.deepcopy((handed, named))
    with test.assertRaises(error) as caught:
        ask(*handed, **named)
    test.assertIs(type(caught.exception), error)
    test.assertEqual((handed, named), before)
    return caught.exception


def square_root(whole):
    """The square root of a whole number as a Real."""
    return root((-whole, 0, 1), 1)
