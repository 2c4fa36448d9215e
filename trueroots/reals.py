"""Reals: real roots of polynomials, each kept by its single polynomial and its place among that one's real roots."""

from trueroots.coefficients import plain_of, quotient_of, value_parts
from trueroots.errors import NoDivision, NoReal, NoRoot, NothingBetween, TooGreat
from trueroots.factors import factors_of
from trueroots.isolation import cells_of, narrowed, worth_at
from trueroots.polys import MOST_DEGREE, need_some_poly
from trueroots.ratios import is_less, is_ratio, ratio, simplest
from trueroots.traces import least_of, products_poly, sums_poly
from trueroots.wholes import is_whole, sign_of
from trueroots.writing import real_text

THOUSAND = 1000

# So many bits are looked at first where reals are held against each other; then twice so many, and on.
FIRST_BITS = 16


class Real:
    """A real number: poly is the single polynomial of which it is a root, place how many real roots of that are less.

    Of a fraction cell is None; else it is a cell as in trueroots.isolation that has no other root of poly.
    """

    def __init__(self, poly, place, cell):
        self.poly = poly
        self.place = place
        self.cell = cell

    def __eq__(self, other):
        return isinstance(other, Real) and self.poly == other.poly and self.place == other.place

    def __str__(self):
        return str(real_text(self.poly, self.place))

    def sign(self):
        """-1, 0 or 1, as it is below 0, 0 or above."""
        return side_by(self, (0, 1))

    def side(self, other):
        """-1, 0 or 1, as it is less than another Real, the same, or more."""
        if self.poly == other.poly:
            return sign_of(self.place - other.place)
        if is_fraction(other):
            return side_by(self, fraction_of(other))
        if is_fraction(self):
            return -side_by(other, fraction_of(self))
        bits = FIRST_BITS
        while floor_at(self, bits) == floor_at(other, bits):
            bits = 2 * bits
        return sign_of(floor_at(self, bits) - floor_at(other, bits))

    def floor(self):
        """The greatest whole number that is no more."""
        return floor_at(self, 0)

    def near(self, *, bottom=THOUSAND):
        """The greatest fraction that is a whole number divided by bottom and no more."""
        bits = bottom.bit_length()
        # What is cut off here is less than 1 divided by bottom: beside this top the next one alone may be due.
        top = (floor_at(self, bits) * bottom) >> bits
        following = ratio(top + 1, bottom)
        return following if side_by(self, following) >= 0 else ratio(top, bottom)

    def span(self, *, narrow=THOUSAND):
        """Two fractions round it, no further apart than 1 divided by narrow; it twice where it is a fraction."""
        return span_at(self, narrow.bit_length())

    def opposite(self):
        """0 less it."""
        return valued(self, (0, -1), 1)

    def plus(self, other):
        """The sum of it and another Real."""
        need_degree(degree_of(self) * degree_of(other))
        if is_fraction(other):
            top, bottom = fraction_of(other)
            return valued(self, (top, bottom), bottom)
        if is_fraction(self):
            return other.plus(self)
        return chosen(roots_of(sums_poly(self.poly, other.poly)), lambda bits: sum_bounds(self, other, bits))

    def minus(self, other):
        """The difference of it and another Real."""
        need_degree(degree_of(self) * degree_of(other))
        return self.plus(other.opposite())

    def times(self, other):
        """The product of it and another Real."""
        need_degree(degree_of(self) * degree_of(other))
        if is_fraction(other):
            top, bottom = fraction_of(other)
            return valued(self, (0, top), bottom)
        if is_fraction(self):
            return other.times(self)
        return chosen(roots_of(products_poly(self.poly, other.poly)), lambda bits: product_bounds(self, other, bits))

    def over(self, other):
        """The quotient of it and another Real."""
        need_degree(degree_of(self) * degree_of(other))
        if other.sign() == 0:
            raise NoDivision("nothing is divided by 0")
        return self.times(turned(other))

    def raised(self, many):
        """It so many times itself, 1 where many is 0."""
        return valued(self, (0,) * many + (1,), 1)

    def nth(self, many):
        """The real that, raised to many, is it, and is not below 0 where many is even."""
        need_degree(degree_of(self) * many)
        if many % 2 == 0 and self.sign() < 0:
            raise NoReal("no even power is below 0")
        found = roots_of(spread(self.poly, many))
        # The order of the powers is that of the numbers: of all numbers, or of those that are not below 0.
        if many % 2 == 1:
            return found[self.place]
        return [real for real in found if real.sign() >= 0][self.place - many_below(single_roots(self.poly))]


def degree_of(real):
    """The degree of the polynomial of a Real."""
    return len(real.poly) - 1


def need_degree(degree):
    """Refuses a degree that is too great."""
    if degree > MOST_DEGREE:
        raise TooGreat(degree)


def is_fraction(real):
    """Whether a Real is a fraction."""
    return len(real.poly) == 2


def fraction_of(real):
    """The fraction that a Real is."""
    return (-real.poly[0], real.poly[1])


def floor_at(real, bits):
    """The greatest whole number that is no more than a Real times 2 to the bits."""
    if is_fraction(real):
        top, bottom = fraction_of(real)
        return (top << bits) // bottom
    whole, own = narrowed(real.poly, real.cell, bits)
    return whole >> (own - bits)


def span_at(real, bits):
    """Two fractions round a Real, apart by 1 divided by 2 to the bits; a fraction twice."""
    if is_fraction(real):
        return (fraction_of(real), fraction_of(real))
    low = floor_at(real, bits)
    return (ratio(low, 1 << bits), ratio(low + 1, 1 << bits))


def side_by(real, fraction):
    """-1, 0 or 1, as a Real is less than a fraction, the same, or more."""
    top, bottom = fraction
    if is_fraction(real):
        return sign_of(-real.poly[0] * bottom - top * real.poly[1])
    whole, bits = real.cell
    if (top << bits) <= whole * bottom:
        return 1
    if (top << bits) >= (whole + 1) * bottom:
        return -1
    # Between the low end of the cell and the fraction the sign changes just where the root lies between them.
    at_low = worth_at(real.poly, whole, bits)
    at_fraction = value_parts(real.poly, top, bottom)[0]
    return 1 if (at_low > 0) == (at_fraction > 0) else -1


def single_roots(single):
    """All real roots of a single polynomial, the least first."""
    if len(single) == 2:
        return [Real(single, 0, None)]
    return [Real(single, place, cell) for place, cell in enumerate(cells_of(single))]


def levelled(reals):
    """Reals, no two alike, in order, and bits by which their floors are unlike, too."""
    bits = FIRST_BITS
    floors = [floor_at(real, bits) for real in reals]
    while len(set(floors)) < len(floors):
        bits = 2 * bits
        floors = [floor_at(real, bits) for real in reals]
    pairs = sorted([(low, real) for low, real in zip(floors, reals)], key=lambda pair: pair[0])
    return ([real for low, real in pairs], bits)


def unordered_roots(poly):
    """All real roots of a polynomial, not nought, those of one factor beside each other."""
    return [real for single, many in factors_of(poly) for real in single_roots(single)]


def roots_of(poly):
    """All real roots of a polynomial, not nought, the least first."""
    return levelled(unordered_roots(poly))[0]


def many_below(reals):
    """How many of these are below 0."""
    return len([real for real in reals if real.sign() < 0])


def turned(real):
    """1 divided by a Real that is not 0."""
    found = single_roots(plain_of(real.poly[::-1]))
    # The order of those below 0 is turned, and so is that of those above.
    return found[(many_below(found) - 1 - real.place) % len(found)]


def spread(poly, many):
    """The polynomial at x to the power many."""
    numbers = [0] * ((len(poly) - 1) * many + 1)
    for at, part in enumerate(poly):
        numbers[at * many] = part
    return tuple(numbers)


def sum_bounds(one, other, bits):
    """Two whole numbers between which the sum of two Reals, times 2 to the bits, lies."""
    low = floor_at(one, bits) + floor_at(other, bits)
    return (low, low + 2)


def bounds_times(one, other, bits):
    """Bounds of the products of what lies within two pairs of bounds, all of them times 2 to the bits."""
    corners = [left * right for left in one for right in other]
    return (min(corners) >> bits, -((-max(corners)) >> bits))


def bounds_at(real, bits):
    """Two whole numbers between which a Real, times 2 to the bits, lies."""
    low = floor_at(real, bits)
    return (low, low + 1)


def product_bounds(one, other, bits):
    """Two whole numbers between which the product of two Reals, times 2 to the bits, lies."""
    return bounds_times(bounds_at(one, bits), bounds_at(other, bits), bits)


def value_bounds(real, numbers, bits):
    """Two whole numbers between which the value of a polynomial at a Real, times 2 to the bits, lies."""
    own = bounds_at(real, bits)
    low, high = 0, 0
    for part in reversed(numbers):
        low, high = bounds_times((low, high), own, bits)
        low += part << bits
        high += part << bits
    return (low, high)


def quotient_bounds(bounds, bottom):
    """Bounds of what lies within bounds divided by a bottom above 0."""
    low, high = bounds
    return (low // bottom, -((-high) // bottom))


def chosen(reals, bounds):
    """The one of some Reals that lies within the bounds for all bits; bounds tells them for so many bits."""
    bits = FIRST_BITS
    while len(reals) > 1:
        low, high = bounds(bits)
        reals = [real for real in reals if low <= floor_at(real, bits) <= high]
        bits = 2 * bits
    return reals[0]


def valued(real, numbers, bottom):
    """What a polynomial, of any length, divided by a bottom above 0, is at a Real."""
    found = single_roots(least_of(real.poly, numbers, bottom))
    return chosen(found, lambda bits: quotient_bounds(value_bounds(real, numbers, bits), bottom))


def value_sign(real, numbers):
    """-1, 0 or 1, as a polynomial, of any length, is below 0, 0 or above at a Real."""
    if quotient_of(numbers, real.poly) is not None:
        return 0
    bits = FIRST_BITS
    low, high = value_bounds(real, numbers, bits)
    while low <= 0 <= high:
        bits = 2 * bits
        low, high = value_bounds(real, numbers, bits)
    return 1 if low > 0 else -1


def number(top, bottom=1):
    """The Real that is the fraction of two whole numbers."""
    own_top, own_bottom = ratio(top, bottom)
    return Real((-own_top, own_bottom), 0, None)


def root(poly, place=0):
    """The real root of a polynomial, not nought, that has so many unlike ones below it."""
    found = roots(poly)
    if not is_whole(place) or not 0 <= place < len(found):
        raise NoRoot(len(found))
    return found[place]


def roots(poly):
    """All unlike real roots of a polynomial, not nought, the least first."""
    need_some_poly(poly)
    return roots_of(poly)


def between(one, other):
    """The simplest fraction between two Reals, none of the two."""
    if one.side(other) >= 0:
        raise NothingBetween("the first is not less than the second")
    bits = FIRST_BITS
    found = simplest(span_at(one, bits)[0], span_at(other, bits)[1])
    # What is simplest in more than what lies between is so in that, too, if only it lies there.
    while side_by(one, found) >= 0 or side_by(other, found) <= 0:
        bits = 2 * bits
        found = simplest(span_at(one, bits)[0], span_at(other, bits)[1])
    return found


def spans(poly):
    """For each unlike real root of a polynomial, not nought, two fractions round it alone; a fraction twice."""
    need_some_poly(poly)
    found, bits = levelled(unordered_roots(poly))
    return [span_at(real, bits) for real in found]


def is_pair(thing):
    """Whether a thing is a tuple of two fractions."""
    return isinstance(thing, tuple) and len(thing) == 2 and all([is_ratio(part) for part in thing])


def row_holds(row, reals):
    """Whether two fractions are one of the roots twice, or just one of these lies between them."""
    low, high = row
    if low == high:
        return any([side_by(real, low) == 0 for real in reals])
    inside = [real for real in reals if side_by(real, low) > 0 and side_by(real, high) < 0]
    return is_less(low, high) and len(inside) == 1


def follows(row, following):
    """Whether two spans may be neighbours."""
    if is_less(following[0], row[1]):
        return False
    return row != following or row[0] != row[1]


def spans_hold(poly, rows):
    """Whether a thing is a list of spans for a polynomial, not nought."""
    need_some_poly(poly)
    if not isinstance(rows, list) or not all([is_pair(row) for row in rows]):
        return False
    reals = roots_of(poly)
    if len(rows) != len(reals) or not all([row_holds(row, reals) for row in rows]):
        return False
    return all([follows(row, following) for row, following in zip(rows, rows[1:])])
