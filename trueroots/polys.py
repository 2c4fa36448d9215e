"""Polynomials: tuples of at most 13 whole numbers, for 1, x, x ** 2 and on, the last not 0; () is nought."""

from trueroots.coefficients import common_of, layers_of, plain_of, product_of, quotient_of
from trueroots.coefficients import resultant_of, sum_of, value_parts
from trueroots.errors import NoPoly
from trueroots.ratios import need_ratio, ratio
from trueroots.wholes import is_whole

MOST_DEGREE = 12


def is_poly(thing):
    """Whether a thing is a polynomial."""
    if not isinstance(thing, tuple) or len(thing) > MOST_DEGREE + 1:
        return False
    if not all([is_whole(number) for number in thing]):
        return False
    return len(thing) == 0 or thing[-1] != 0


def need_poly(thing):
    """Refuses what is no polynomial."""
    if not is_poly(thing):
        raise NoPoly("that is no polynomial")


def need_some_poly(thing):
    """Refuses what is no polynomial, and nought."""
    need_poly(thing)
    if len(thing) == 0:
        raise NoPoly("that is nought")


def poly_plus(one, other):
    """The sum of two polynomials."""
    need_poly(one)
    need_poly(other)
    return sum_of(one, other)


def poly_times(one, other):
    """The product of two polynomials, which may be longer than a polynomial."""
    need_poly(one)
    need_poly(other)
    return product_of(one, other)


def value_at(poly, number):
    """The value of a polynomial at a fraction, a fraction."""
    need_poly(poly)
    need_ratio(number)
    top, bottom = value_parts(poly, number[0], number[1])
    return ratio(top, bottom)


def plain(poly):
    """The polynomial with no number above 1 that divides all coefficients, the last one above 0."""
    need_poly(poly)
    return plain_of(poly)


def quotient(one, other):
    """The polynomial that, times the other one, comes to the one; None where there is none with whole numbers."""
    need_poly(one)
    need_some_poly(other)
    return quotient_of(one, other)


def common(one, other):
    """The plain polynomial of greatest degree that divides both."""
    need_poly(one)
    need_poly(other)
    return common_of(one, other)


def layers(poly):
    """Pairs (layer, many), many rising: the layer has the roots that the polynomial has just so many times."""
    need_some_poly(poly)
    return layers_of(poly)


def resultant(one, other):
    """The determinant of the shifted coefficients of two polynomials, 0 where one is nought."""
    need_poly(one)
    need_poly(other)
    return resultant_of(one, other)
