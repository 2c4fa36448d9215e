"""What polynomials are below, at and above nought: at a Real, and on the whole line."""

from trueroots.errors import NoPoly
from trueroots.factors import factors_of
from trueroots.polys import need_poly
from trueroots.reals import levelled, single_roots, value_sign
from trueroots.wholes import sign_of


def need_polys(thing):
    """Refuses what is no list of polynomials."""
    if not isinstance(thing, list):
        raise NoPoly("that is no list of polynomials")
    for poly in thing:
        need_poly(poly)


def sign_at(poly, one):
    """-1, 0 or 1, as a polynomial is below 0, 0 or above at a Real."""
    need_poly(poly)
    return value_sign(one, poly)


def factor_table(poly):
    """How often each single polynomial divides a polynomial; nothing of nought."""
    if len(poly) == 0:
        return {}
    return {single: many for single, many in factors_of(poly)}


def cells_by(tables):
    """All real roots of the single polynomials in these tables, in order, each once."""
    singles = {}
    for table in tables:
        for single in table:
            singles[single] = True
    return levelled([real for single in singles for real in single_roots(single)])[0]


def column_by(poly, table, found):
    """The signs of a polynomial: below all cells, at the first, between it and the next, and on."""
    if len(poly) == 0:
        return [0] * (2 * len(found) + 1)
    sign = sign_of(poly[-1]) if len(poly) % 2 == 1 else -sign_of(poly[-1])
    column = [sign]
    for cell in found:
        many = table.get(cell.poly, 0)
        column.append(sign if many == 0 else 0)
        # The sign changes just at those roots that come an odd number of times.
        if many % 2 == 1:
            sign = -sign
        column.append(sign)
    return column


def signed_cells(polys):
    """The cells of polynomials and their sign rows."""
    tables = [factor_table(poly) for poly in polys]
    found = cells_by(tables)
    columns = [column_by(poly, table, found) for poly, table in zip(polys, tables)]
    rows = [tuple([column[at] for column in columns]) for at in range(2 * len(found) + 1)]
    return (found, rows)


def cells(polys):
    """All unlike real roots of a list of polynomials, those of nought left out, in order, each once."""
    need_polys(polys)
    return signed_cells(polys)[0]


def sign_rows(polys):
    """The signs of all polynomials of a list: below all cells, at the first, between it and the next, and on."""
    need_polys(polys)
    return signed_cells(polys)[1]
