"""From the parts of a polynomial by a prime to those by a great power of that prime, in Hensel's way."""

from trueroots.coefficients import sum_of
from trueroots.remainders import division_by, ended_by, left_by, less_by, rest_by, times_by, turned_by


def moduli_to(prime, least):
    """The prime squared, that squared, and on, up to the first one that is not below least."""
    moduli = [prime * prime]
    while moduli[-1] < least:
        moduli.append(moduli[-1] * moduli[-1])
    return moduli


def lifted(whole, part, prime, moduli):
    """The one divisor of whole, whose last coefficient is 1, by the last of the moduli that leaves part by the prime.

    At each turn, other is what comes to whole with the part, and turner what leaves 1 with it by the part: both need
    to be right only by the modulus ahead, for the rest that they are to take off is a multiple of that one.
    """
    other = division_by(whole, part, prime)[0]
    turner = turned_by(other, part, prime)
    for modulus in moduli:
        rest = rest_by(whole, part, modulus)
        change = rest_by(times_by(turner, rest, modulus), part, modulus)
        part = left_by(sum_of(part, change), modulus)
        other = division_by(whole, part, modulus)[0]
        lack = less_by((2,), times_by(turner, other, modulus), modulus)
        turner = rest_by(times_by(turner, lack, modulus), part, modulus)
    return part


def lifted_parts(poly, parts, prime, moduli):
    """All parts by the last of the moduli; their product, times poly's last coefficient, leaves poly."""
    modulus = moduli[-1]
    whole = ended_by(left_by(poly, modulus), modulus)
    return [lifted(whole, part, prime, moduli) for part in parts]
