"""Whole numbers, as all other files reckon with them."""

# Of numbers of more bits than MANY_BITS, the greatest divisor is first looked for by their foremost WINDOW bits.
MANY_BITS = 4000
WINDOW = 512


def is_whole(thing):
    """Whether a thing is a whole number; a truth is none."""
    return isinstance(thing, int) and not isinstance(thing, bool)


def turns_of(high, low):
    """Four factors that make of two numbers what Euclid's turns, up to the middle of the window, come to."""
    by_high, by_low = (1, 0), (0, 1)
    while low.bit_length() > WINDOW // 2:
        part = high // low
        high, low = low, high - part * low
        by_high, by_low = by_low, (by_high[0] - part * by_low[0], by_high[1] - part * by_low[1])
    return by_high + by_low


def brought_down(high, low):
    """Two numbers, none below 0, with the divisors of these, the second of no more than MANY_BITS bits."""
    while low.bit_length() > MANY_BITS:
        shift = high.bit_length() - WINDOW
        a, b, c, d = turns_of(high >> shift, low >> shift)
        # Whatever the turns were, these two have the same divisors as the two ahead, for a * d - b * c is 1 or -1.
        one, other = abs(a * high + b * low), abs(c * high + d * low)
        high, low = max(one, other), min(one, other)
        # One turn with the whole numbers makes sure that they become less.
        if low != 0:
            high, low = low, high % low
    return (high, low)


def greatest_divisor(one, other):
    """The greatest number that divides both, 0 of two noughts."""
    if min(one.bit_length(), other.bit_length()) > MANY_BITS:
        one, other = brought_down(max(abs(one), abs(other)), min(abs(one), abs(other)))
    while other != 0:
        one, other = other, one % other
    return abs(one)


def power(base, many):
    """A number so many times itself, 1 where many is 0."""
    outcome = 1
    for turn in range(many):
        outcome *= base
    return outcome


def sign_of(number):
    """-1, 0 or 1, as the number is below 0, 0 or above."""
    if number == 0:
        return 0
    return 1 if number > 0 else -1


def is_prime(number):
    """Whether a whole number is a prime."""
    if number < 2:
        return False
    divisor = 2
    while divisor * divisor <= number:
        if number % divisor == 0:
            return False
        divisor += 1
    return True


def inverse_by(number, modulus):
    """The number from 0 on below the modulus that, times the number, leaves 1; no number above 1 divides both."""
    high, low = modulus, number % modulus
    # At each turn high and low are what these two, times the number, leave.
    for_high, for_low = 0, 1
    while low > 1:
        part = high // low
        high, low = low, high - part * low
        for_high, for_low = for_low, for_high - part * for_low
    return for_low % modulus
