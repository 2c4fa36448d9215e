"""The texts of polynomials, reals, trees, formulas and pieces, written and read back."""

from trueroots.errors import NoFormula, NoText, NoTree
from trueroots.factors import is_single
from trueroots.polys import need_poly
from trueroots.reading import nested_from, poly_from, tops_from, whole_from
from trueroots.reals import number, roots
from trueroots.regions import is_formula
from trueroots.sheets import is_name, is_tree
from trueroots.writing import number_text, poly_text, ratio_text

# No more trees or formulas than this lie within one another: of deeper texts nothing more is read.
DEEPEST = 6


def need_text(thing):
    """Refuses what is no text."""
    if not isinstance(thing, str):
        raise NoText("that is no text")


def need_same(text, again):
    """Refuses a text that is not just as it would be written."""
    if text != again:
        raise NoText("that is not written so")


def write_poly(poly):
    """The text of a polynomial."""
    need_poly(poly)
    return poly_text(poly)


def read_poly(text):
    """The polynomial of a text."""
    need_text(text)
    poly = poly_from(text)
    need_same(text, poly_text(poly))
    return poly


def real_from(text):
    """The Real that a text tells, read freely."""
    if not text.startswith("root "):
        top, bottom = tops_from(text)
        if bottom == 0:
            raise NoText("nothing is divided by 0")
        return number(top, bottom)
    words = text.split(" ")
    if len(words) != 3:
        raise NoText("that is no place and no polynomial")
    place, poly = whole_from(words[1]), poly_from(words[2])
    found = roots(poly) if is_single(poly) else []
    if not 0 <= place < len(found):
        raise NoText("there is no such root of a single polynomial")
    return found[place]


def read_real(text):
    """The Real of a text."""
    need_text(text)
    real = real_from(text)
    need_same(text, str(real))
    return real


def tree_text(tree):
    """The text of a tree."""
    kind = tree[0]
    if kind == "name":
        return tree[1]
    if kind == "number":
        return ratio_text(tree[1], tree[2])
    if kind == "root":
        return f"(root {number_text(tree[2])} {poly_text(tree[1])})"
    if kind == "nth" or kind == "raised":
        return f"({kind} {tree[1]} {tree_text(tree[2])})"
    return f"({kind} {tree_text(tree[1])} {tree_text(tree[2])})"


def write_tree(tree):
    """The text of a tree."""
    if not is_tree(tree):
        raise NoTree("that is no tree")
    return tree_text(tree)


def tree_from(part, deep):
    """The tree that words and lists of words tell, read freely."""
    if isinstance(part, str):
        if is_name(part):
            return ("name", part)
        top, bottom = tops_from(part)
        return ("number", top, bottom)
    if deep == 0 or len(part) != 3:
        raise NoText("that is no tree")
    kind, one, other = part
    if kind == "root":
        return (kind, poly_from(other), whole_from(one))
    if kind == "nth" or kind == "raised":
        return (kind, whole_from(one), tree_from(other, deep - 1))
    return (kind, tree_from(one, deep - 1), tree_from(other, deep - 1))


def read_tree(text):
    """The tree of a text."""
    need_text(text)
    tree = tree_from(nested_from(text), DEEPEST)
    if not is_tree(tree):
        raise NoText("that is no tree")
    need_same(text, tree_text(tree))
    return tree


def formula_text(formula):
    """The text of a formula."""
    if formula[0] == "side":
        return f"(side {formula[1]} {poly_text(formula[2])})"
    if formula[0] == "not":
        return f"(not {formula_text(formula[1])})"
    parts = [" " + formula_text(part) for part in formula[1]]
    return "(" + formula[0] + "".join(parts) + ")"


def write_formula(formula):
    """The text of a formula."""
    if not is_formula(formula):
        raise NoFormula("that is no formula")
    return formula_text(formula)


def formula_from(part, deep):
    """The formula that lists of words tell, read freely."""
    if deep == 0 or isinstance(part, str) or len(part) == 0:
        raise NoText("that is no formula")
    kind = part[0]
    if kind == "side" and len(part) == 3:
        return (kind, part[1], poly_from(part[2]))
    if kind == "not" and len(part) == 2:
        return (kind, formula_from(part[1], deep - 1))
    return (kind, tuple([formula_from(inner, deep - 1) for inner in part[1:]]))


def read_formula(text):
    """The formula of a text."""
    need_text(text)
    formula = formula_from(nested_from(text), DEEPEST)
    if not is_formula(formula):
        raise NoText("that is no formula")
    need_same(text, formula_text(formula))
    return formula


def piece_text(piece):
    """The text of one piece (low, first, high, last)."""
    low, first, high, last = piece
    ahead = "[" if first else "("
    behind = "]" if last else ")"
    return ahead + ("down" if low is None else str(low)) + ", " + ("up" if high is None else str(high)) + behind


def write_pieces(pieces):
    """The text of a list of pieces, in its order."""
    if len(pieces) == 0:
        return "nothing"
    return " ".join([piece_text(piece) for piece in pieces])
