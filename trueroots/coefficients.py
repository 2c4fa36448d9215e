"""Reckoning with polynomials of any length, as tuples of whole numbers that do not end in 0; nothing is refused."""

from trueroots.wholes import greatest_divisor, power


def trimmed(numbers):
    """A list of coefficients as a tuple, without the noughts at its end."""
    many = len(numbers)
    while many > 0 and numbers[many - 1] == 0:
        many -= 1
    return tuple(numbers[:many])


def sum_of(one, other):
    """The sum of two polynomials."""
    longer, shorter = (one, other) if len(one) >= len(other) else (other, one)
    numbers = list(longer)
    for at, number in enumerate(shorter):
        numbers[at] += number
    return trimmed(numbers)


def product_of(one, other):
    """The product of two polynomials."""
    if len(one) == 0 or len(other) == 0:
        return ()
    numbers = [0] * (len(one) + len(other) - 1)
    for at, left in enumerate(one):
        for by, right in enumerate(other):
            numbers[at + by] += left * right
    return tuple(numbers)


def value_parts(poly, top, bottom):
    """The value of a polynomial at a fraction as (top, bottom), not in lowest terms."""
    worth, scale = 0, 1
    for number in reversed(poly):
        worth = worth * top + number * scale
        scale *= bottom
    # The last turn scaled once more than the degree asks for.
    return (worth * bottom, scale)


def derivative(poly):
    """The derivative of a polynomial."""
    return tuple([at * number for at, number in enumerate(poly)][1:])


def content(poly):
    """The greatest number that divides all coefficients, 0 of nought."""
    divisor = 0
    for number in poly:
        divisor = greatest_divisor(number, divisor)
    return divisor


def shrunk(poly):
    """The polynomial divided by its content; no sign is turned."""
    divisor = content(poly)
    return tuple([number // divisor for number in poly])


def opposite_of(poly):
    """The polynomial times -1."""
    return tuple([-number for number in poly])


def plain_of(poly):
    """The polynomial divided by its content, and by -1 where its last coefficient is below 0."""
    small = shrunk(poly)
    if len(small) > 0 and small[-1] < 0:
        return opposite_of(small)
    return small


def quotient_of(one, other):
    """The polynomial that, times the other one, which is not nought, comes to the one; None where there is none."""
    rest = list(one)
    numbers = []
    for at in range(len(one) - len(other), -1, -1):
        number, left = divmod(rest.pop(), other[-1])
        if left != 0:
            return None
        numbers.append(number)
        for by in range(len(other) - 1):
            rest[at + by] -= number * other[by]
    if any([number != 0 for number in rest]):
        return None
    return tuple(numbers[::-1])


def whole_rest(high, low):
    """The rest of high divided by low, high first multiplied by low's last coefficient once for each turn."""
    rest = list(high)
    lead = low[-1]
    for at in range(len(high) - len(low), -1, -1):
        number = rest.pop()
        rest = [lead * part for part in rest]
        for by in range(len(low) - 1):
            rest[at + by] -= number * low[by]
    return trimmed(rest)


def both_odd(one, other):
    """Whether the degrees of both are odd."""
    return len(one) % 2 == 0 and len(other) % 2 == 0


def descent(high, low):
    """Of two polynomials, none nought, the first not shorter: a common one of greatest degree, and the resultant.

    It goes down the chain of subresultants: what each rest is divided by is known to divide it, so that the numbers
    stay small without a greatest divisor being looked for at each turn.
    """
    sign, lead, scale = 1, 1, 1
    while len(low) > 1:
        drop = len(high) - len(low)
        if both_odd(high, low):
            sign = -sign
        divisor = lead * power(scale, drop)
        high, low = low, tuple([number // divisor for number in whole_rest(high, low)])
        lead = high[-1]
        scale = power(lead, drop) * scale // power(scale, drop)
    if len(low) == 0:
        return (high, 0)
    degree = len(high) - 1
    return (low, sign * power(low[0], degree) * scale // power(scale, degree))


def common_of(one, other):
    """The plain polynomial of greatest degree that divides both, () of two noughts."""
    high, low = plain_of(one), plain_of(other)
    if len(high) < len(low):
        high, low = low, high
    if len(low) == 0:
        return high
    return plain_of(descent(high, low)[0])


def resultant_of(one, other):
    """The resultant of two polynomials, 0 where one is nought."""
    if len(one) == 0 or len(other) == 0:
        return 0
    if len(one) >= len(other):
        return descent(one, other)[1]
    worth = descent(other, one)[1]
    # The rows of the determinant change places: so many times as the product of the degrees.
    return -worth if both_odd(one, other) else worth


def once_of(poly):
    """The plain polynomial with the roots of a polynomial, not nought, each once."""
    whole = plain_of(poly)
    return quotient_of(whole, common_of(whole, derivative(whole)))


def layers_of(poly):
    """The layers of a polynomial, not nought: pairs (layer, many), many rising."""
    whole = plain_of(poly)
    # A root that is there so many times is left once less in deeper, and once in once.
    deeper = common_of(whole, derivative(whole))
    once = quotient_of(whole, deeper)
    pairs = []
    many = 1
    while len(once) > 1:
        still = common_of(once, deeper)
        layer = quotient_of(once, still)
        if len(layer) > 1:
            pairs.append((layer, many))
        deeper = quotient_of(deeper, still)
        once = still
        many += 1
    return pairs
