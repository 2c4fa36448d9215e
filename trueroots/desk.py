"""The desk: a sheet that is asked rows of text and answers with texts."""

from trueroots.errors import Full, NoDivision, NoName, NoPoly, NoReal, NoRoot, NoText, NothingBetween, NothingDone
from trueroots.errors import NothingLeft, Ring, TooGreat
from trueroots.reading import whole_from
from trueroots.reals import between, roots
from trueroots.regions import region
from trueroots.sheets import LIMIT, Sheet
from trueroots.texts import read_formula, read_poly, read_real, read_tree, write_pieces, write_tree
from trueroots.writing import number_text, ratio_text


def listed(texts, mark):
    """Texts with a mark between them, "nothing" where there are none."""
    if len(texts) == 0:
        return "nothing"
    text = texts[0]
    for following in texts[1:]:
        text += mark + following
    return text


def put_row(sheet, parts):
    """Gives a name a tree."""
    sheet.put(parts[0], parts[1])
    return "done"


def strike_row(sheet, parts):
    """Takes a name off."""
    sheet.strike(parts[0])
    return "done"


def back_row(sheet, parts):
    """Undoes the last deed."""
    sheet.back()
    return "done"


def again_row(sheet, parts):
    """Does the deed again that was last taken back."""
    sheet.again()
    return "done"


def tell_row(sheet, parts):
    """The text of a name's Real."""
    return str(sheet.value(parts[0]))


def tree_row(sheet, parts):
    """The text of a name's tree."""
    return write_tree(sheet.tree(parts[0]))


def near_row(sheet, parts):
    """The text of a fraction near a name's Real."""
    top, bottom = sheet.value(parts[0]).near(bottom=parts[1])
    return ratio_text(top, bottom)


def side_row(sheet, parts):
    """Whether the Real of the first name is less than that of the second, the same, or more."""
    one = sheet.value(parts[0])
    other = sheet.value(parts[1])
    return ("same", "more", "less")[one.side(other)]


def between_row(sheet, parts):
    """The text of the simplest fraction between the Reals of two names."""
    one = sheet.value(parts[0])
    other = sheet.value(parts[1])
    top, bottom = between(one, other)
    return ratio_text(top, bottom)


def names_row(sheet, parts):
    """All names."""
    return listed(sheet.names(), " ")


def order_row(sheet, parts):
    """All names, each behind those that its tree has."""
    return listed(sheet.order(), " ")


def uses_row(sheet, parts):
    """The names in a name's tree."""
    return listed(sheet.uses(parts[0]), " ")


def users_row(sheet, parts):
    """The names whose trees have a name."""
    return listed(sheet.users(parts[0]), " ")


def roots_row(sheet, parts):
    """The texts of all roots of a polynomial."""
    return listed([str(real) for real in roots(parts[0])], ", ")


def where_row(sheet, parts):
    """The text of the pieces of a formula's region."""
    return write_pieces(region(parts[0]).pieces())


def some_row(sheet, parts):
    """The text of a number for which a formula is true."""
    return str(region(parts[0]).some())


def holds_row(sheet, parts):
    """Whether a formula is true for a name's Real."""
    one = sheet.value(parts[0])
    return "yes" if region(parts[1]).holds(one) else "no"


def read_row(sheet, parts):
    """The text of a Real that was read."""
    return str(parts[0])


# What each row has behind its first word, and what answers it.
SHAPES = {
    "put": ("name", "tree"), "strike": ("name",), "back": (), "again": (), "tell": ("name",), "tree": ("name",),
    "near": ("name", "bottom"), "side": ("name", "name"), "between": ("name", "name"), "names": (), "order": (),
    "uses": ("name",), "users": ("name",), "roots": ("poly",), "where": ("formula",), "some": ("formula",),
    "holds": ("name", "formula"), "read": ("real",),
}
ANSWERS = {
    "put": put_row, "strike": strike_row, "back": back_row, "again": again_row, "tell": tell_row, "tree": tree_row,
    "near": near_row, "side": side_row, "between": between_row, "names": names_row, "order": order_row,
    "uses": uses_row, "users": users_row, "roots": roots_row, "where": where_row, "some": some_row,
    "holds": holds_row, "read": read_row,
}


def bottom_from(text):
    """The whole number from 1 on that a text is."""
    bottom = whole_from(text)
    if bottom < 1 or number_text(bottom) != text:
        raise NoText("that is no bottom")
    return bottom


def read_part(kind, text):
    """What a text is, by what is asked for in its place; a name is not read, the sheet looks at it."""
    if kind == "tree":
        return read_tree(text)
    if kind == "formula":
        return read_formula(text)
    if kind == "poly":
        return read_poly(text)
    if kind == "real":
        return read_real(text)
    if kind == "bottom":
        return bottom_from(text)
    if text == "" or " " in text:
        raise NoText("that is not one word")
    return text


def answer(sheet, row):
    """The answer to a row, where nothing is refused."""
    head = row.partition(" ")[0]
    if head not in SHAPES:
        raise NoText("that is no row")
    shape = SHAPES[head]
    words = row.split(" ", len(shape))
    if words[0] != head or len(words) != len(shape) + 1:
        raise NoText("that row has other words")
    parts = [read_part(kind, word) for kind, word in zip(shape, words[1:])]
    action = ANSWERS[head]
    return action(sheet, parts)


def answered(sheet, row):
    """The answer to a row; what is refused is told by its word."""
    try:
        return answer(sheet, row)
    except NoText:
        return "refused text"
    except NoName as nameless:
        return f"refused name {nameless.name}"
    except NoRoot as rootless:
        return f"refused root {rootless.many}"
    except TooGreat as great:
        return f"refused degree {great.degree}"
    except Ring as turning:
        return "refused ring " + " ".join(turning.ring)
    except NoPoly:
        # Texts of polynomials are read ahead: what is refused then is nought.
        return "refused nought"
    except NoReal:
        return "refused real"
    except NoDivision:
        return "refused division"
    except NothingBetween:
        return "refused between"
    except NothingLeft:
        return "refused none"
    except Full:
        return "refused full"
    except NothingDone:
        return "refused done"


class Desk:
    """A desk with a sheet of its own; rows are all that was asked, with the answers."""

    def __init__(self, *, limit=LIMIT):
        self.sheet = Sheet(limit=limit)
        self.rows = []

    def __len__(self):
        return len(self.rows)

    def ask(self, row):
        """Answers a row."""
        text = answered(self.sheet, row)
        self.rows.append((row, text))
        return text

    def told(self):
        """All rows with their answers, as tuples (row, answer)."""
        return list(self.rows)
