"""Formulas of signs of polynomials, and for which numbers they are true."""

from trueroots.errors import NoFormula, NothingLeft
from trueroots.polys import is_poly
from trueroots.reals import between, levelled, number
from trueroots.signs import signed_cells

# Formulas lie at most so many within one another, and at most so many stand beside each other.
DEEPEST = 6
MOST_FORMULAS = 6

# The signs for which each word holds.
WORDS = {"<": (-1,), "<=": (-1, 0), "=": (0,), "!=": (-1, 1), ">=": (0, 1), ">": (1,)}


def is_formula(thing):
    """Whether a thing is a formula."""
    return is_formula_within(thing, DEEPEST)


def is_formula_within(thing, deep):
    """Whether a thing is a formula in which at most so many lie within one another."""
    if deep == 0 or not isinstance(thing, tuple) or len(thing) not in (2, 3):
        return False
    if len(thing) == 3:
        kind, word, poly = thing
        return kind == "side" and isinstance(word, str) and word in WORDS and is_poly(poly)
    kind, inner = thing
    if kind == "not":
        return is_formula_within(inner, deep - 1)
    if kind not in ("all", "some") or not isinstance(inner, tuple) or len(inner) > MOST_FORMULAS:
        return False
    return all([is_formula_within(part, deep - 1) for part in inner])


def note_polys(formula, polys):
    """Notes all polynomials of a formula as keys of polys."""
    if formula[0] == "side":
        polys[formula[2]] = True
    elif formula[0] == "not":
        note_polys(formula[1], polys)
    else:
        for part in formula[1]:
            note_polys(part, polys)


def is_true(formula, signs):
    """Whether a formula is true where its polynomials have these signs."""
    if formula[0] == "side":
        return signs[formula[2]] in WORDS[formula[1]]
    if formula[0] == "not":
        return not is_true(formula[1], signs)
    parts = [is_true(part, signs) for part in formula[1]]
    return all(parts) if formula[0] == "all" else any(parts)


def region(formula):
    """The region of all real numbers for which a formula is true."""
    if not is_formula(formula):
        raise NoFormula("that is no formula")
    noted = {}
    note_polys(formula, noted)
    polys = list(noted)
    cells, rows = signed_cells(polys)
    truths = [is_true(formula, {poly: sign for poly, sign in zip(polys, row)}) for row in rows]
    return region_of(cells, truths)


def region_of(cells, truths):
    """The region that has what the truths tell: below all cells, at the first, between it and the next, and on."""
    ends = []
    kept = [truths[0]]
    for at, cell in enumerate(cells):
        point, beyond = truths[2 * at + 1], truths[2 * at + 2]
        # A cell round which nothing changes is no end: so each region is kept in one way only.
        if point != kept[-1] or beyond != kept[-1]:
            ends.append(cell)
            kept.extend([point, beyond])
    return Region(ends, kept)


def spread_over(truths, ends, cells):
    """The truths of a region for more cells, all its ends among them."""
    spread = [truths[0]]
    at = 0
    for cell in cells:
        if at < len(ends) and ends[at] == cell:
            spread.append(truths[2 * at + 1])
            at += 1
        else:
            spread.append(truths[2 * at])
        spread.append(truths[2 * at])
    return spread


def aligned(one, other):
    """The ends of two regions in order, each once, and for these the truths of both, side by side."""
    ends = {(end.poly, end.place): end for end in one.ends + other.ends}
    cells = levelled(list(ends.values()))[0]
    left = spread_over(one.truths, one.ends, cells)
    right = spread_over(other.truths, other.ends, cells)
    return (cells, [(here, there) for here, there in zip(left, right)])


def is_whole_end(end):
    """Whether a Real is a whole number."""
    return end == number(end.floor())


def first_whole(low, first):
    """The least whole number above a Real, or that one itself where it is one and belongs."""
    return low.floor() if first and is_whole_end(low) else low.floor() + 1


def last_whole(high, last):
    """The greatest whole number below a Real, or that one itself where it is one and belongs."""
    return high.floor() - 1 if is_whole_end(high) and not last else high.floor()


class Region:
    """All real numbers for which something is true.

    ends are Reals in order; truths tell whether it has what is below all ends, the first end, what lies between it
    and the next, and on. There is no end that could be left out.
    """

    def __init__(self, ends, truths):
        self.ends = ends
        self.truths = truths

    def __eq__(self, other):
        return isinstance(other, Region) and self.ends == other.ends and self.truths == other.truths

    def __len__(self):
        return len(self.pieces())

    def piece(self, start, stop):
        """The piece from one place among the truths on to another one."""
        low = None if start == 0 else self.ends[(start - 1) // 2]
        high = None if stop == 2 * len(self.ends) else self.ends[stop // 2]
        return (low, start % 2 == 1, high, stop % 2 == 1)

    def pieces(self):
        """Its longest stretches in order, as tuples (low, first, high, last)."""
        found = []
        start = None
        for at, has in enumerate(self.truths):
            if has and start is None:
                start = at
            if start is not None and (at + 1 == len(self.truths) or not self.truths[at + 1]):
                found.append(self.piece(start, at))
                start = None
        return found

    def holds(self, one):
        """Whether it has a Real."""
        for at, end in enumerate(self.ends):
            side = one.side(end)
            if side <= 0:
                return self.truths[2 * at] if side < 0 else self.truths[2 * at + 1]
        return self.truths[-1]

    def some(self):
        """One of its Reals."""
        found = self.pieces()
        if len(found) == 0:
            raise NothingLeft("the region has no number")
        low, first, high, last = found[0]
        if first:
            return low
        if last:
            return high
        if low is None:
            return number(0) if high is None else number(high.floor() - 1)
        if high is None:
            return number(low.floor() + 1)
        top, bottom = between(low, high)
        return number(top, bottom)

    def least(self):
        """Its least Real, None where there is none."""
        found = self.pieces()
        if len(found) == 0 or not found[0][1]:
            return None
        return found[0][0]

    def most(self):
        """Its greatest Real, None where there is none."""
        found = self.pieces()
        if len(found) == 0 or not found[-1][3]:
            return None
        return found[-1][2]

    def wholes(self, low, high):
        """How many whole numbers from low to high, both counted, it has."""
        many = 0
        for start, first, stop, last in self.pieces():
            least = low if start is None else max(low, first_whole(start, first))
            most = high if stop is None else min(high, last_whole(stop, last))
            many += max(0, most - least + 1)
        return many

    def both(self, other):
        """The region of the numbers of it that are the other one's, too."""
        cells, pairs = aligned(self, other)
        return region_of(cells, [here and there for here, there in pairs])

    def either(self, other):
        """The region of its numbers and of the other one's."""
        cells, pairs = aligned(self, other)
        return region_of(cells, [here or there for here, there in pairs])

    def rest(self):
        """The region of all other numbers."""
        return Region(list(self.ends), [not has for has in self.truths])

    def within(self, other):
        """Whether all its numbers are the other one's, too."""
        return all([there or not here for here, there in aligned(self, other)[1]])
