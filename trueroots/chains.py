"""Sturm's chains: how many real roots lie where, and on which side of 0 a second polynomial is at them."""

from trueroots.coefficients import common_of, derivative, once_of, opposite_of, product_of, shrunk
from trueroots.coefficients import value_parts, whole_rest
from trueroots.errors import NoPoly
from trueroots.polys import need_poly, need_some_poly
from trueroots.ratios import is_less, need_ratio
from trueroots.wholes import sign_of


def turned_rest(high, low):
    """The rest of high divided by the shorter low, times -1, times the fraction above 0 that leaves no content."""
    rest = shrunk(whole_rest(high, low))
    # The rest was multiplied by low's last coefficient so many times as high has places more, and once.
    if low[-1] < 0 and (len(high) - len(low)) % 2 == 0:
        return rest
    return opposite_of(rest)


def rows_from(first, second):
    """The first, the second, then each time the turned rest of the two ahead, up to the first nought."""
    rows = [first]
    while len(second) > 0:
        rows.append(second)
        second = turned_rest(rows[-2], second)
    return rows


def chain_of(poly):
    """Sturm's chain of a polynomial, not nought."""
    first = once_of(poly)
    return rows_from(first, shrunk(derivative(first)))


def changes(numbers):
    """How often the sign changes from one number to the next, noughts passed over."""
    many = 0
    last = 0
    for number in numbers:
        sign = sign_of(number)
        if sign * last < 0:
            many += 1
        if sign != 0:
            last = sign
    return many


def changes_at(rows, number):
    """The changes of sign in the values at a fraction."""
    return changes([value_parts(row, number[0], number[1])[0] for row in rows])


def changes_below(rows):
    """The changes of sign at numbers that are less than all roots."""
    return changes([row[-1] if len(row) % 2 == 1 else -row[-1] for row in rows])


def changes_above(rows):
    """The changes of sign at numbers that are more than all roots."""
    return changes([row[-1] for row in rows])


def count_of(rows, low, high):
    """How many roots lie above low, up to high, by the chain; None stands for no end."""
    at_low = changes_below(rows) if low is None else changes_at(rows, low)
    at_high = changes_above(rows) if high is None else changes_at(rows, high)
    return at_low - at_high


def chain(poly):
    """Sturm's chain of a polynomial, not nought, as a list."""
    need_some_poly(poly)
    return chain_of(poly)


def many_roots(poly, *, low=None, high=None):
    """How many unlike real roots lie above low, up to high, that one counted; None stands for no end."""
    need_some_poly(poly)
    for end in (low, high):
        if end is not None:
            need_ratio(end)
    if low is not None and high is not None and not is_less(low, high):
        return 0
    return count_of(chain_of(poly), low, high)


def chain_holds(poly, rows):
    """Whether a list of polynomials is the chain of one, but for a fraction above 0 by each."""
    need_some_poly(poly)
    if not isinstance(rows, list):
        raise NoPoly("that is no list of polynomials")
    for row in rows:
        need_poly(row)
    return [shrunk(row) for row in rows] == chain_of(poly)


def taken_of(first, other):
    """At how many more roots of the first, which has each once, the other one is above 0 than below."""
    # The first is plain, so that both rests were multiplied by numbers above 0 alone.
    rest = shrunk(whole_rest(other, first))
    rows = rows_from(first, shrunk(whole_rest(product_of(derivative(first), rest), first)))
    return count_of(rows, None, None)


def taken(poly, other):
    """At how many unlike real roots of the first the second is above 0, less those where it is below."""
    need_some_poly(poly)
    need_poly(other)
    return taken_of(once_of(poly), other)


def sides(poly, other):
    """At how many unlike real roots of the first the second is below 0, is 0, is above 0."""
    need_some_poly(poly)
    need_poly(other)
    first = once_of(poly)
    many = count_of(chain_of(first), None, None)
    at_nought = count_of(chain_of(common_of(first, other)), None, None)
    more = taken_of(first, other)
    above = (many - at_nought + more) // 2
    return (above - more, at_nought, above)
