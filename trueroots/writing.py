"""The texts of numbers, fractions, polynomials and reals; nothing is refused."""

from trueroots.wholes import power

# Python itself writes no number of some thousand figures: so long ones are written by pieces of so many figures.
FIGURES = 60


def number_text(whole):
    """The text of a whole number of any length."""
    if whole < 0:
        return "-" + number_text(-whole)
    limit = power(10, FIGURES)
    pieces = []
    while whole >= limit:
        whole, rest = divmod(whole, limit)
        pieces.append(str(rest).zfill(FIGURES))
    pieces.append(str(whole))
    return "".join(pieces[::-1])


def part_text(number, at):
    """The text of one part of a polynomial: a number, not 0, times x to a power."""
    if at == 0:
        return number_text(number)
    sign = "-" if number < 0 else ""
    figures = "" if abs(number) == 1 else number_text(abs(number))
    return sign + figures + ("x" if at == 1 else f"x^{at}")


def poly_text(poly):
    """The text of a polynomial, its parts from the greatest power on."""
    text = ""
    for at in range(len(poly) - 1, -1, -1):
        if poly[at] != 0:
            plus = "+" if text != "" and poly[at] > 0 else ""
            text += plus + part_text(poly[at], at)
    return "0" if text == "" else text


def ratio_text(top, bottom):
    """The text of a top and a bottom above 0, the top alone where the bottom is 1."""
    if bottom == 1:
        return number_text(top)
    return number_text(top) + "/" + number_text(bottom)


def real_text(poly, place):
    """The text of the real root of a single polynomial that has this place."""
    if len(poly) == 2:
        return ratio_text(-poly[0], poly[1])
    return f"root {place} {poly_text(poly)}"
