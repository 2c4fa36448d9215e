"""Reckoning with polynomials by the remainders of a modulus: tuples of numbers from 0 to the modulus less 1."""

from trueroots.coefficients import opposite_of, product_of, sum_of, trimmed
from trueroots.wholes import inverse_by


def left_by(poly, modulus):
    """What the coefficients leave."""
    return trimmed([number % modulus for number in poly])


def scaled_by(poly, number, modulus):
    """The polynomial times a number."""
    return left_by([number * part for part in poly], modulus)


def times_by(one, other, modulus):
    """The product of two."""
    return left_by(product_of(one, other), modulus)


def less_by(one, other, modulus):
    """The one less the other."""
    return left_by(sum_of(one, opposite_of(other)), modulus)


def ended_by(poly, modulus):
    """The polynomial, not nought, times the number that makes its last coefficient 1."""
    return scaled_by(poly, inverse_by(poly[-1], modulus), modulus)


def division_by(high, low, modulus):
    """The quotient and the rest of a division by low, whose last coefficient is 1."""
    rest = list(high)
    numbers = []
    for at in range(len(high) - len(low), -1, -1):
        number = rest.pop() % modulus
        numbers.append(number)
        for by in range(len(low) - 1):
            rest[at + by] -= number * low[by]
    return (left_by(numbers[::-1], modulus), left_by(rest, modulus))


def rest_by(high, low, modulus):
    """The rest of a division by low, whose last coefficient is 1."""
    return division_by(high, low, modulus)[1]


def common_by(one, other, prime):
    """The polynomial of greatest degree that divides both, not both nought, its last coefficient 1."""
    while len(other) > 0:
        low = ended_by(other, prime)
        one, other = low, rest_by(one, low, prime)
    return ended_by(one, prime)


def turned_by(poly, whole, prime):
    """What, times the polynomial, leaves 1 by whole, whose last coefficient is 1; none of degree 1 divides both."""
    high, low = whole, rest_by(poly, whole, prime)
    # At each turn high and low are what these two, times the polynomial, leave by whole.
    for_high, for_low = (), (1,)
    while len(low) > 0:
        scale = inverse_by(low[-1], prime)
        low, for_low = scaled_by(low, scale, prime), scaled_by(for_low, scale, prime)
        part, rest = division_by(high, low, prime)
        high, low = low, rest
        for_high, for_low = for_low, less_by(for_high, times_by(part, for_low, prime), prime)
    return for_high


def raised_by(poly, many, whole, prime):
    """What the polynomial, so many times itself, leaves by whole, whose last coefficient is 1."""
    outcome = (1,)
    while many > 0:
        if many % 2 == 1:
            outcome = rest_by(times_by(outcome, poly, prime), whole, prime)
        poly = rest_by(times_by(poly, poly, prime), whole, prime)
        many = many // 2
    return outcome
