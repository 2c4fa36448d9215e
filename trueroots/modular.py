"""The parts of a polynomial by the remainders of a prime, found in Berlekamp's way."""

from trueroots.coefficients import derivative
from trueroots.errors import Folds, NoPrime
from trueroots.polys import need_some_poly
from trueroots.remainders import common_by, division_by, ended_by, left_by, less_by, raised_by, rest_by, times_by
from trueroots.wholes import inverse_by, is_prime, is_whole

MOST_PRIME = 97


def need_prime(thing):
    """Refuses what is no prime from 2 to 97."""
    if not is_whole(thing) or thing > MOST_PRIME or not is_prime(thing):
        raise NoPrime("that is no prime of these")


def folds_by(poly, prime):
    """Whether the prime takes off the last coefficient, or leaves no degree, or makes a part come twice."""
    if len(poly) < 2 or poly[-1] % prime == 0:
        return True
    return len(common_by(left_by(poly, prime), left_by(derivative(poly), prime), prime)) > 1


def shifted_rows(poly, prime):
    """For each power of x below the degree: it to the prime less itself, by poly, and behind these the power itself."""
    degree = len(poly) - 1
    step = raised_by((0, 1), prime, poly, prime)
    reach = (1,)
    rows = []
    for at in range(degree):
        own = [0] * at + [1]
        shift = less_by(reach, tuple(own), prime)
        rows.append(list(shift) + [0] * (degree - len(shift)) + own + [0] * (degree - len(own)))
        reach = rest_by(times_by(reach, step, prime), poly, prime)
    return rows


def reduced(row, pivots, prime):
    """The row less so many times each pivot that it is 0 at all their places."""
    for place, pivot in pivots:
        number = row[place]
        if number != 0:
            row = [(part - number * by) % prime for part, by in zip(row, pivot)]
    return row


def kept_by(poly, prime):
    """The polynomials that are themselves to the prime, by poly: so many that all are sums of multiples of these."""
    degree = len(poly) - 1
    pivots = []
    kept = []
    for shifted in shifted_rows(poly, prime):
        row = reduced(shifted, pivots, prime)
        places = [at for at in range(degree) if row[at] != 0]
        if len(places) == 0:
            kept.append(left_by(row[degree:], prime))
        else:
            scale = inverse_by(row[places[0]], prime)
            pivots.append((places[0], [scale * number % prime for number in row]))
    return kept


def split_by(part, keeper, prime):
    """The part as a list of those on which the keeper, which is itself to the prime, is one number each."""
    pieces = []
    number = 0
    while len(rest_by(keeper, part, prime)) > 1:
        piece = common_by(part, less_by(keeper, (number,), prime), prime)
        if len(piece) > 1:
            pieces.append(piece)
            part = division_by(part, piece, prime)[0]
        number += 1
    return pieces + [part]


def parts_of(poly, prime):
    """The parts by a prime that does not fold the polynomial, each ending in 1, shorter ones first."""
    whole = ended_by(left_by(poly, prime), prime)
    kept = kept_by(whole, prime)
    parts = [whole]
    for keeper in kept:
        # There are so many parts as keepers: none is left to be split then.
        if len(parts) < len(kept):
            parts = [piece for part in parts for piece in split_by(part, keeper, prime)]
    return sorted(parts, key=lambda part: (len(part), part))


def parts_by(poly, prime):
    """The parts of a polynomial, not nought, by a prime from 2 to 97."""
    need_some_poly(poly)
    need_prime(prime)
    if folds_by(poly, prime):
        raise Folds("by that prime it has no parts that can be told")
    return parts_of(poly, prime)
