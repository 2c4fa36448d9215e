"""The field of a Real: all that sums, products and quotients of it and of fractions come to."""

from trueroots.coefficients import product_of, sum_of, trimmed, whole_rest
from trueroots.errors import NoDivision, NoElement
from trueroots.polys import need_poly
from trueroots.ratios import is_ratio, ratio
from trueroots.reals import Real, valued, value_sign
from trueroots.traces import from_sums, least_of, scaled_values, value_sums
from trueroots.wholes import greatest_divisor, power


class Field:
    """The field of a Real, its base; an element is a tuple of so many fractions as size tells.

    The fractions are those for 1, for the base, for the base times itself, and on.
    """

    def __init__(self, base):
        self.base = Real(base.poly, base.place, base.cell)
        self.size = len(base.poly) - 1

    def is_own(self, thing):
        """Whether a thing is an element."""
        return isinstance(thing, tuple) and len(thing) == self.size and all([is_ratio(part) for part in thing])

    def need_own(self, thing):
        """Refuses what is no element."""
        if not self.is_own(thing):
            raise NoElement("that is no element of the field")

    def reduced(self, numbers, bottom):
        """The element that a polynomial, of any length, divided by bottom, is at the base."""
        rest = whole_rest(numbers, self.base.poly)
        # The rest was multiplied by the last number of the base's polynomial once for each place too many.
        scale = bottom * power(self.base.poly[-1], max(0, len(numbers) - self.size))
        padded = rest + (0,) * (self.size - len(rest))
        return tuple([ratio(part, scale) for part in padded])

    def brought(self, poly):
        """The element that a polynomial is at the base."""
        need_poly(poly)
        return self.reduced(poly, 1)

    def plus(self, one, other):
        """The sum of two elements."""
        self.need_own(one)
        self.need_own(other)
        return tuple([ratio_plus(left, right) for left, right in zip(one, other)])

    def times(self, one, other):
        """The product of two elements."""
        self.need_own(one)
        self.need_own(other)
        left, left_bottom = joined(one)
        right, right_bottom = joined(other)
        return self.reduced(product_of(left, right), left_bottom * right_bottom)

    def inverse(self, one):
        """The element that, times this one, is 1."""
        self.need_own(one)
        whole, values, scale = self.scaled(one)
        if len(values) == 0:
            raise NoDivision("nothing is divided by 0")
        own = from_sums(value_sums(whole, values, self.size), self.size)
        # By Cayley and Hamilton: own is 0 at values. So values, times what own is without its first number and
        # divided by x, come to that number times -1.
        reach = (1,)
        for at in range(self.size - 1, 0, -1):
            reach = sum_of(whole_rest(product_of(reach, values), whole), (own[at],))
        lead = self.base.poly[-1]
        turned = tuple([-scale * part * power(lead, at) for at, part in enumerate(reach)])
        return self.reduced(turned, own[0])

    def trace(self, one):
        """The sum of what the element is at all roots of the base's polynomial."""
        self.need_own(one)
        whole, values, scale = self.scaled(one)
        return ratio(value_sums(whole, values, 1)[1], scale)

    def norm(self, one):
        """The product of what the element is at all roots of the base's polynomial."""
        self.need_own(one)
        whole, values, scale = self.scaled(one)
        product = from_sums(value_sums(whole, values, self.size), self.size)[0]
        return ratio(product if self.size % 2 == 0 else -product, power(scale, self.size))

    def scaled(self, one):
        """The element's values, as scaled_values has them."""
        numbers, bottom = joined(one)
        return scaled_values(self.base.poly, numbers, bottom)

    def least_poly(self, one):
        """The single polynomial of which the element is a root."""
        self.need_own(one)
        numbers, bottom = joined(one)
        return least_of(self.base.poly, numbers, bottom)

    def value(self, one):
        """The Real that the element is."""
        self.need_own(one)
        numbers, bottom = joined(one)
        return valued(self.base, numbers, bottom)

    def side(self, one):
        """-1, 0 or 1, as the element is below 0, 0 or above."""
        self.need_own(one)
        return value_sign(self.base, joined(one)[0])


def ratio_plus(one, other):
    """The sum of two fractions."""
    return ratio(one[0] * other[1] + other[0] * one[1], one[1] * other[1])


def joined(one):
    """An element as a polynomial of whole numbers and a bottom above 0 by which it is divided."""
    bottom = 1
    for part in one:
        bottom = bottom * part[1] // greatest_divisor(bottom, part[1])
    return (trimmed([part[0] * (bottom // part[1]) for part in one]), bottom)


def value_of(poly, one):
    """The Real that a polynomial is at a Real."""
    need_poly(poly)
    return valued(one, poly, 1)
