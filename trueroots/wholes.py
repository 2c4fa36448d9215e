"""Whole numbers, as all other files reckon with them."""


def is_whole(thing):
    """Whether a thing is a whole number; a truth is none."""
    return isinstance(thing, int) and not isinstance(thing, bool)


def greatest_divisor(one, other):
    """The greatest number that divides both, 0 of two noughts."""
    while other != 0:
        one, other = other, one % other
    return abs(one)


def power(base, many):
    """A number so many times itself, 1 where many is 0."""
    outcome = 1
    for turn in range(many):
        outcome *= base
    return outcome
