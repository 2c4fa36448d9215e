"""Whole numbers, as all other files reckon with them."""


def is_whole(thing):
    """Whether a thing is a whole number; a truth is none."""
    return isinstance(thing, int) and not isinstance(thing, bool)


def greatest_divisor(one, other):
    """The greatest number that divides both, 0 of two noughts."""
    while other != 0:
        one, other = other, one % other
    return abs(one)


def power(base, many):
    """A number so many times itself, 1 where many is 0."""
    outcome = 1
    for turn in range(many):
        outcome *= base
    return outcome


def sign_of(number):
    """-1, 0 or 1, as the number is below 0, 0 or above."""
    if number == 0:
        return 0
    return 1 if number > 0 else -1


def is_prime(number):
    """Whether a whole number is a prime."""
    if number < 2:
        return False
    divisor = 2
    while divisor * divisor <= number:
        if number % divisor == 0:
            return False
        divisor += 1
    return True


def inverse_by(number, modulus):
    """The number from 0 on below the modulus that, times the number, leaves 1; no number above 1 divides both."""
    high, low = modulus, number % modulus
    # At each turn high and low are what these two, times the number, leave.
    for_high, for_low = 0, 1
    while low > 1:
        part = high // low
        high, low = low, high - part * low
        for_high, for_low = for_low, for_high - part * for_low
    return for_low % modulus
