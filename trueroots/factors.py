"""The factors of a polynomial: single ones, found by a prime, lifted to a great power of it, and put together."""

from trueroots.coefficients import content, layers_of, plain_of, quotient_of
from trueroots.lifting import lifted_parts, moduli_to
from trueroots.modular import folds_by, parts_of
from trueroots.polys import need_poly, need_some_poly
from trueroots.remainders import times_by
from trueroots.wholes import is_prime, power

# So many primes are tried before the one with the fewest parts is taken.
TRIED = 5

# A prime so great that few polynomials have a root twice by it that have none twice.
GREAT_PRIME = 10007


def fewest_parts(poly):
    """A prime and the parts of a polynomial by it, as few as some primes have; it has no root twice."""
    best_prime, best = 0, []
    tried = 0
    # The last coefficient and the numbers by which roots meet have only so many primes: the search comes to an end.
    prime = 2
    while tried < TRIED and len(best) != 1:
        if is_prime(prime) and not folds_by(poly, prime):
            parts = parts_of(poly, prime)
            tried += 1
            if tried == 1 or len(parts) < len(best):
                best_prime, best = prime, parts
        prime += 1
    return (best_prime, best)


def bound_of(poly):
    """More than twice each coefficient of each factor, that one made to end in poly's last coefficient."""
    # By Mignotte: none is above 2 to its degree, times the sum of poly's coefficients, all taken above 0.
    return power(2, len(poly)) * sum([abs(number) for number in poly])


def picks_of(many, size):
    """All rising tuples of so many places, one at least, below many."""
    picks = [(at,) for at in range(many)]
    for turn in range(size - 1):
        picks = [pick + (at,) for pick in picks for at in range(pick[-1] + 1, many)]
    return picks


def candidate(poly, parts, modulus):
    """The plain polynomial that has these parts, if there is one that divides poly."""
    product = (poly[-1],)
    for part in parts:
        product = times_by(product, part, modulus)
    return plain_of(tuple([number - modulus if 2 * number > modulus else number for number in product]))


def next_single(poly, parts, size, modulus):
    """A pair (factor, pick) of the first pick of so many parts that come to a factor; None where there is none."""
    for pick in picks_of(len(parts), size):
        found = candidate(poly, [parts[at] for at in pick], modulus)
        if quotient_of(poly, found) is not None:
            return (found, pick)
    return None


def joined(poly, parts, modulus):
    """The single polynomials that come to a plain one whose parts by the modulus these are."""
    singles = []
    size = 1
    # What is made of more than half of the parts leaves a factor of fewer.
    while 2 * size <= len(parts):
        pair = next_single(poly, parts, size, modulus)
        if pair is None:
            size += 1
        else:
            found, pick = pair
            singles.append(found)
            poly = quotient_of(poly, found)
            parts = [part for at, part in enumerate(parts) if at not in pick]
    return singles + [poly]


def singles_of(poly):
    """The single polynomials that come to a plain one of degree 1 or more that has no root twice."""
    if len(poly) == 2:
        return [poly]
    prime, parts = fewest_parts(poly)
    if len(parts) == 1:
        return [poly]
    moduli = moduli_to(prime, bound_of(poly))
    return joined(poly, lifted_parts(poly, parts, prime, moduli), moduli[-1])


def quick_layers(poly):
    """The layers of a polynomial, not nought."""
    # What has no root twice by a prime has none at all: that is seen far sooner than the layers are reckoned.
    if not folds_by(poly, GREAT_PRIME):
        return [(plain_of(poly), 1)]
    return layers_of(poly)


def factors_of(poly):
    """The pairs (single polynomial, how often) of a polynomial, not nought, shorter ones first."""
    pairs = [(single, many) for layer, many in quick_layers(poly) for single in singles_of(layer)]
    return sorted(pairs, key=lambda pair: (len(pair[0]), pair[0]))


def factors(poly):
    """A tuple (part, pairs): a number and pairs (single polynomial, how often) that come to the polynomial."""
    need_some_poly(poly)
    part = content(poly)
    return (part if poly[-1] > 0 else -part, factors_of(poly))


def is_single(poly):
    """Whether a polynomial is plain, of degree 1 or more, and parts no further."""
    need_poly(poly)
    return len(poly) > 1 and factors(poly) == (1, [(poly, 1)])
