"""Reading texts more freely than they are written: whoever asks writes what was read and holds it against the text."""

from trueroots.coefficients import trimmed
from trueroots.errors import NoText
from trueroots.polys import MOST_DEGREE

FIGURES = "0123456789"
MOST_FIGURES = 400


def whole_from(text):
    """The whole number that a text is."""
    if not isinstance(text, str):
        raise NoText("that is no number")
    figures = text[1:] if text.startswith("-") else text
    if not 1 <= len(figures) <= MOST_FIGURES or not all([figure in FIGURES for figure in figures]):
        raise NoText("that is no number")
    return int(text)


def tops_from(text):
    """A top and a bottom, 1 where there is none, that a text tells."""
    top, slash, bottom = text.partition("/")
    return (whole_from(top), whole_from(bottom) if slash != "" else 1)


def part_from(text):
    """The number and the power that one part of a polynomial tells."""
    ahead, letter, behind = text.partition("x")
    unsigned = ahead[1:] if ahead.startswith("+") else ahead
    if letter == "":
        return (whole_from(unsigned), 0)
    many = whole_from(unsigned + "1") if unsigned in ("", "-") else whole_from(unsigned)
    if behind == "":
        return (many, 1)
    power = whole_from(behind[1:])
    if not behind.startswith("^") or not 0 <= power <= MOST_DEGREE:
        raise NoText("that is no power")
    return (many, power)


def poly_from(text):
    """The polynomial that a text tells."""
    if not isinstance(text, str):
        raise NoText("that is no polynomial")
    parts = []
    for sign in text:
        # Each sign but a first one begins a new part.
        if len(parts) == 0 or sign in ("+", "-"):
            parts.append(sign)
        else:
            parts[-1] += sign
    numbers = [0] * (MOST_DEGREE + 1)
    for part in parts:
        many, power = part_from(part)
        numbers[power] += many
    return trimmed(numbers)


def nested_from(text):
    """What a text with brackets tells: a word as it is, what a bracket holds as a list."""
    stack = [[]]
    for word in text.replace("(", " ( ").replace(")", " ) ").split():
        if word == "(":
            stack.append([])
        elif word != ")":
            stack[-1].append(word)
        elif len(stack) == 1:
            raise NoText("a bracket is shut that was not begun")
        else:
            inner = stack.pop()
            stack[-1].append(inner)
    if len(stack) != 1 or len(stack[0]) != 1:
        raise NoText("a bracket is not shut, or there is not one thing alone")
    return stack[0][0]
