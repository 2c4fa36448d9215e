"""Where the real roots of a single polynomial of degree 2 or more lie; none of them is a fraction.

A cell (whole, bits) stands for what is more than whole and less than whole + 1, both divided by 2 to the bits.
"""

from trueroots.chains import changes


def moved(numbers):
    """The coefficients of the polynomial at x + 1."""
    moving = list(numbers)
    last = len(moving) - 1
    for turn in range(last):
        for at in range(last - 1, turn - 1, -1):
            moving[at] += moving[at + 1]
    return moving


def halved(numbers):
    """The coefficients of the polynomial at x divided by 2, times 2 so often that they are whole."""
    last = len(numbers) - 1
    return [number << (last - at) for at, number in enumerate(numbers)]


def mirrored(numbers):
    """The coefficients of the polynomial at -x."""
    return [number if at % 2 == 0 else -number for at, number in enumerate(numbers)]


def unit_cells(numbers):
    """The cells of the roots between 0 and 1, the least first, of a polynomial that has no root twice."""
    found = []
    waiting = [(numbers, 0, 0)]
    while len(waiting) > 0:
        own, whole, bits = waiting.pop()
        # By Descartes: no roots lie there where this is 0, and just one where it is 1. It falls to these as the cells
        # become narrow.
        most = changes(moved(own[::-1]))
        if most == 1:
            found.append((whole, bits))
        if most > 1:
            left = halved(own)
            # What is laid down last is taken up first: so the cells are found in order.
            waiting.append((moved(left), 2 * whole + 1, bits + 1))
            waiting.append((left, 2 * whole, bits + 1))
    return found


def reach_of(poly):
    """A number of bits, from 0 on, such that all roots lie between -2 and 2 to it."""
    degree = len(poly) - 1
    room = poly[-1].bit_length() - 1
    reach = 0
    for back in range(1, degree + 1):
        # By Fujiwara: no root is more than twice the greatest of such roots of quotients; this is rounded up.
        bits = poly[degree - back].bit_length() - room
        reach = max(reach, 1 - (-bits) // back)
    return reach


def worth_at(poly, whole, bits):
    """The value at whole divided by 2 to the bits, times 2 to the bits so often as the degree tells."""
    worth = 0
    scale = 0
    for number in reversed(poly):
        worth = worth * whole + (number << scale)
        scale += bits
    return worth


def leap(poly, cell, step):
    """The cell of step more bits round the root, where it is about where a straight line would be 0; else None."""
    whole, bits = cell
    low = worth_at(poly, whole, bits)
    high = worth_at(poly, whole + 1, bits)
    # One bit more is never missed: the root is on one side of the middle.
    parts = 1 if step == 1 else ((low << (step + 1)) // (low - high) + 1) // 2
    point = (whole << step) + parts
    if (worth_at(poly, point, bits + step) > 0) == (low > 0):
        beyond = worth_at(poly, point + 1, bits + step)
        return (point, bits + step) if (beyond > 0) == (high > 0) else None
    behind = worth_at(poly, point - 1, bits + step)
    return (point - 1, bits + step) if (behind > 0) == (low > 0) else None


def narrowed(poly, cell, bits):
    """A cell of so many bits, or of more, round the root that the cell is round."""
    step = 1
    # Near the root the polynomial is almost a straight line: there each leap finds twice the bits of the one ahead.
    while cell[1] < bits:
        found = leap(poly, cell, step)
        if found is None:
            step = step // 2
        else:
            cell = found
            step = 2 * step
    return cell


def cells_of(poly):
    """The cells of all real roots of a single polynomial of degree 2 or more, the least first, none below 0 bits."""
    reach = reach_of(poly)
    # So all roots are brought between -1 and 1.
    drawn = [number << (reach * at) for at, number in enumerate(poly)]
    below = unit_cells(mirrored(drawn))
    cells = [(-1 - whole, bits) for whole, bits in reversed(below)] + unit_cells(drawn)
    wide = [narrowed(drawn, cell, reach) for cell in cells]
    return [(whole, bits - reach) for whole, bits in wide]
