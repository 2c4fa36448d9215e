"""Polynomials of sums, products and values of roots, by the sums of the powers of these.

All roots of a polynomial, the real ones and the others, are meant here. Roots are first multiplied by a number that
makes them roots of a polynomial that ends in 1: then all sums of powers are whole numbers.
"""

from trueroots.coefficients import plain_of, product_of, whole_rest
from trueroots.wholes import power


def ended(poly, scale):
    """The polynomial that ends in 1 whose roots are those of poly times scale, which poly's last number divides."""
    degree = len(poly) - 1
    part = scale // poly[-1]
    return tuple([poly[at] * part * power(scale, degree - 1 - at) for at in range(degree)]) + (1,)


def power_sums(whole, many):
    """The sums of the powers from 0 to many of the roots of a polynomial that ends in 1."""
    degree = len(whole) - 1
    sums = [degree]
    for at in range(1, many + 1):
        # By Newton: each sum comes of those ahead.
        total = at * whole[degree - at] if at <= degree else 0
        for by in range(1, min(at, degree + 1)):
            total += whole[degree - by] * sums[at - by]
        sums.append(-total)
    return sums


def from_sums(sums, degree):
    """The polynomial that ends in 1 with these sums of powers; None where it would not be of whole numbers."""
    numbers = [1]
    for at in range(1, degree + 1):
        total = sum([numbers[by] * sums[at - by] for by in range(at)])
        number, rest = divmod(-total, at)
        if rest != 0:
            return None
        numbers.append(number)
    return tuple(numbers[::-1])


def unscaled(whole, scale):
    """The plain polynomial whose roots are those of whole divided by scale."""
    return plain_of(tuple([number * power(scale, at) for at, number in enumerate(whole)]))


def chosen_rows(many):
    """For each number up to many: how often so many things of it can be taken, from none on to all."""
    rows = [[1]]
    for turn in range(many):
        last = rows[-1]
        rows.append([1] + [low + high for low, high in zip(last, last[1:])] + [1])
    return rows


def sums_poly(one, other):
    """The plain polynomial whose roots are all sums of a root of the one and a root of the other."""
    degree = (len(one) - 1) * (len(other) - 1)
    scale = one[-1] * other[-1]
    left = power_sums(ended(one, scale), degree)
    right = power_sums(ended(other, scale), degree)
    sums = []
    for at, row in enumerate(chosen_rows(degree)):
        sums.append(sum([row[by] * left[by] * right[at - by] for by in range(at + 1)]))
    return unscaled(from_sums(sums, degree), scale)


def products_poly(one, other):
    """The plain polynomial whose roots are all products of a root of the one and a root of the other."""
    degree = (len(one) - 1) * (len(other) - 1)
    left = power_sums(ended(one, one[-1]), degree)
    right = power_sums(ended(other, other[-1]), degree)
    sums = [low * high for low, high in zip(left, right)]
    return unscaled(from_sums(sums, degree), one[-1] * other[-1])


def scaled_values(poly, numbers, bottom):
    """What a polynomial, divided by bottom, is at the roots of poly, as a tuple (whole, numbers, scale).

    The first is the polynomial that ends in 1 whose roots are those of poly times its last number; the second, at
    these roots, comes to the values times scale. The second is shorter than the first.
    """
    lead = poly[-1]
    whole = ended(poly, lead)
    last = max(0, len(numbers) - 1)
    raised = tuple([number * power(lead, last - at) for at, number in enumerate(numbers)])
    return (whole, whole_rest(raised, whole), bottom * power(lead, last))


def value_sums(whole, numbers, many):
    """The sums of the powers, from 0 to many, of what a polynomial is at all roots of whole."""
    sums = power_sums(whole, len(whole) - 1)
    totals = [sums[0]]
    reach = (1,)
    for turn in range(many):
        reach = whole_rest(product_of(reach, numbers), whole)
        totals.append(sum([number * by for number, by in zip(reach, sums)]))
    return totals


def least_power(sums, degree):
    """Of the sums of powers of a polynomial that ends in 1: the one of least degree whose power that one is."""
    for many in range(degree, 1, -1):
        if degree % many == 0 and all([number % many == 0 for number in sums]):
            whole = from_sums([number // many for number in sums], degree // many)
            if whole is not None and [many * number for number in power_sums(whole, degree)] == sums:
                return whole
    return from_sums(sums, degree)


def least_of(poly, numbers, bottom):
    """The single polynomial that has as a root what a polynomial, divided by bottom, is at a root of a single poly."""
    degree = len(poly) - 1
    whole, values, scale = scaled_values(poly, numbers, bottom)
    # The values at all roots are the roots of one single polynomial, each of them equally often.
    return unscaled(least_power(value_sums(whole, values, degree), degree), scale)
