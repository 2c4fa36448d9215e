"""What several tests need: things of all kinds, and slow but plain ways to reckon what is due."""

import random
from fractions import Fraction
from math import gcd, lcm

GREAT = 10 ** 200


def nested(depth, make):
    """A thing with so many lists or tuples within one another."""
    thing = make([])
    for turn in range(depth - 1):
        thing = make([thing])
    return thing


# None of these is a whole number, a fraction or a polynomial.
ODD_THINGS = [
    None, True, False, "", "x", "1", "(1, 2)", [], [0], [1], [1, 2], [1, 1], [[1, 2]], [(1, 2)], [None],
    (None,), ("1",), ("1", "2"), (1, "2"), ("1", 2), (1, None), (None, 1), ((1, 2),), ([1], [2]), ((1,), (2,)),
    ((1, 2), (3, 4)), ([], 1), (1, []), (True, True), (1, True), (True, 2), (False, 1), (0, False), (True,), (False,),
    (1, ()), ((), 1), nested(24, list), nested(24, tuple), (1, nested(23, tuple)), (nested(23, list), 1),
]

NO_WHOLES = ODD_THINGS + [(), (1,), (1, 2), (0, 1)]
NO_RATIOS = ODD_THINGS + [
    0, 1, -1, GREAT, (), (1,), (1, 2, 3), (0, 1, 1), (1, 0), (0, 0), (1, -2), (-1, -2), (0, -1), (0, 2), (2, 4),
    (-2, 4), (6, 3), (GREAT, GREAT), (GREAT, 2), (2, GREAT), (-GREAT, 5),
]
NO_POLYS = ODD_THINGS + [
    0, 1, -1, GREAT, (0,), (0, 0), (1, 0), (1, 2, 0), (0,) * 13, (1,) * 14, (0,) * 13 + (1,), (1,) * 13 + (0,),
    (1,) * 25, (1,) * 40, (1, 2, None), (1, "2", 3), (True, 0, 1), (1, False, 1), (1, 0, True), (1, [2], 3), [1, 2, 3],
]


def seeded(word):
    """A source of numbers that is the same at each run."""
    return random.Random(word)


def some_poly(source, degree, bound):
    """A polynomial of just that degree, with numbers up to bound on both sides of 0."""
    last = source.choice([-1, 1]) * source.randint(1, bound)
    return tuple([source.randint(-bound, bound) for turn in range(degree)] + [last])


def slow_product(*polys):
    """The product of all, of any length."""
    outcome = [1]
    for poly in polys:
        longer = [0] * max(0, len(outcome) + len(poly) - 1)
        for at, left in enumerate(outcome):
            for by, right in enumerate(poly):
                longer[at + by] += left * right
        outcome = longer
    while outcome and outcome[-1] == 0:
        outcome.pop()
    return tuple(outcome)


def slow_division(one, other):
    """Quotient and rest with fractions as coefficients."""
    rest = [Fraction(number) for number in one]
    numbers = [Fraction(0)] * max(0, len(one) - len(other) + 1)
    for at in range(len(one) - len(other), -1, -1):
        numbers[at] = rest[at + len(other) - 1] / other[-1]
        for by, number in enumerate(other):
            rest[at + by] -= numbers[at] * number
    while rest and rest[-1] == 0:
        rest.pop()
    return numbers, rest


def slow_plain(numbers):
    """The plain polynomial of a list of fractions."""
    if not numbers:
        return ()
    many = lcm(*[Fraction(number).denominator for number in numbers])
    wholes = [int(number * many) for number in numbers]
    divisor = gcd(*wholes)
    if wholes[-1] < 0:
        divisor = -divisor
    return tuple([whole // divisor for whole in wholes])


def slow_common(one, other):
    """Euclid's way, with fractions."""
    one, other = list(one), list(other)
    while other:
        one, other = other, slow_division(one, other)[1]
    return slow_plain([Fraction(number) / one[-1] for number in one])


def square(one, other):
    """The rows of the determinant that the resultant is."""
    m, n = len(one) - 1, len(other) - 1
    rows = [[0] * at + list(one[::-1]) + [0] * (n - 1 - at) for at in range(n)]
    return rows + [[0] * at + list(other[::-1]) + [0] * (m - 1 - at) for at in range(m)]


def determinant(rows):
    """By Gauss's way, with fractions."""
    rows = [[Fraction(number) for number in row] for row in rows]
    worth = Fraction(1)
    for at in range(len(rows)):
        found = [by for by in range(at, len(rows)) if rows[by][at] != 0]
        if not found:
            return 0
        if found[0] != at:
            rows[at], rows[found[0]] = rows[found[0]], rows[at]
            worth = -worth
        worth *= rows[at][at]
        for by in range(at + 1, len(rows)):
            scale = rows[by][at] / rows[at][at]
            if scale:
                rows[by] = [low - scale * high for low, high in zip(rows[by], rows[at])]
    return worth


def slow_value(poly, number):
    """The value at a fraction, by its powers."""
    return sum([part * Fraction(number) ** at for at, part in enumerate(poly)], Fraction(0))


def pair_of(number):
    """A fraction of Python's as the program has it."""
    number = Fraction(number)
    return (number.numerator, number.denominator)


def line(number):
    """The plain polynomial of length 2 whose root is a fraction."""
    number = Fraction(number)
    return (-number.numerator, number.denominator)


def from_roots(*numbers):
    """The plain polynomial with just these fractions as roots, so often as they are there."""
    return slow_product(*[line(number) for number in numbers])


def slow_derivative(poly):
    """The derivative."""
    return tuple([at * part for at, part in enumerate(poly)][1:])


def slow_chain(poly):
    """Sturm's chain in Sturm's way, with fractions."""
    whole = slow_plain(poly)
    first = slow_plain(slow_division(whole, slow_common(whole, slow_derivative(whole)))[0])
    rows = [[Fraction(part) for part in first]]
    row = [Fraction(part) for part in slow_derivative(first)]
    while row:
        rows.append(row)
        row = [-part for part in slow_division(rows[-2], rows[-1])[1]]
    return [kept_sign(row) for row in rows]


def kept_sign(numbers):
    """A list of fractions, not empty, times the fraction above 0 that leaves whole numbers without a divisor."""
    sign = 1 if numbers[-1] > 0 else -1
    return tuple([sign * part for part in slow_plain(numbers)])


def exchanged(thing, other):
    """All that comes of a thing with one place in it, or the whole, exchanged for another thing."""
    found = [other]
    if isinstance(thing, tuple):
        for at, part in enumerate(thing):
            found.extend([thing[:at] + (inner,) + thing[at + 1:] for inner in exchanged(part, other)])
    return found


def reshaped(thing):
    """All that comes of a thing with one tuple in it made a list, or given a part more or less."""
    if not isinstance(thing, tuple):
        return []
    found = [list(thing), thing + (None,), thing + (thing,)]
    # Without one of its formulas, or of its numbers, many a thing is of the same kind still.
    if thing and isinstance(thing[0], str):
        found.extend([thing[:-1], thing[1:]])
    for at, part in enumerate(thing):
        found.extend([thing[:at] + (inner,) + thing[at + 1:] for inner in reshaped(part)])
    return found
