"""Fractions: tuples (top, bottom) in lowest terms, bottom above 0."""

from trueroots.errors import NoRatio, NothingBetween
from trueroots.wholes import greatest_divisor, is_whole


def is_ratio(thing):
    """Whether a thing is a fraction."""
    if not isinstance(thing, tuple) or len(thing) != 2:
        return False
    top, bottom = thing
    if not is_whole(top) or not is_whole(bottom):
        return False
    return bottom > 0 and greatest_divisor(top, bottom) == 1


def need_ratio(thing):
    """Refuses what is no fraction."""
    if not is_ratio(thing):
        raise NoRatio("that is no fraction")


def ratio(top, bottom=1):
    """The fraction of two whole numbers."""
    if not is_whole(top) or not is_whole(bottom) or bottom == 0:
        raise NoRatio("no fraction comes of these")
    divisor = greatest_divisor(top, bottom)
    if bottom < 0:
        divisor = -divisor
    return (top // divisor, bottom // divisor)


def is_less(one, other):
    """Whether a fraction is less than another one."""
    return one[0] * other[1] < other[0] * one[1]


def simplest(low, high):
    """The fraction between two, none of the two, of the least bottom, and of these nearest to 0."""
    need_ratio(low)
    need_ratio(high)
    if not is_less(low, high):
        raise NothingBetween("the first is not less than the second")
    if low[0] >= 0:
        return simplest_above(low, high)
    if high[0] > 0:
        return (0, 1)
    # Both are at or below 0: what is simplest there mirrors what is simplest above.
    top, bottom = simplest_above((-high[0], high[1]), (-low[0], low[1]))
    return (-top, bottom)


def simplest_above(low, high):
    """The simplest fraction between two of which the first is not below 0."""
    wholes = []
    low_top, low_bottom = low
    high_top, high_bottom = high
    whole = low_top // low_bottom
    # The next whole number is not below high: so both ends share this whole part, but that high may be the next
    # number itself. What is sought is it and 1 divided by the simplest one between the turned over rests. A rest of 0
    # is turned over to a bottom of 0, which stands for no end.
    while (whole + 1) * high_bottom >= high_top:
        wholes.append(whole)
        low_rest = low_top - whole * low_bottom
        high_rest = high_top - whole * high_bottom
        low_top, low_bottom, high_top, high_bottom = high_bottom, high_rest, low_bottom, low_rest
        whole = low_top // low_bottom
    top, bottom = whole + 1, 1
    for part in reversed(wholes):
        top, bottom = part * top + bottom, top
    return (top, bottom)
