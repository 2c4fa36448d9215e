"""All refusals of the package; those of NoSuch are about what was handed in, those of NoValue about what is due."""


def copied(thing):
    """A thing like it whose lists are its own, so that nothing an asker does later changes an error."""
    if isinstance(thing, list):
        return [copied(part) for part in thing]
    if isinstance(thing, tuple):
        return tuple([copied(part) for part in thing])
    return thing


class RootError(ValueError):
    """Whatever the package refuses."""


class NoSuch(RootError):
    """What was handed in is not of the kind that is asked for."""


class NoValue(RootError):
    """What was handed in is of the right kind, but nothing can be told of it."""


class NoRatio(NoSuch):
    """No fraction, or no fraction comes of it."""


class NoPoly(NoSuch):
    """No polynomial, or nought where nought is refused."""


class NoPrime(NoSuch):
    """No prime from 2 to 97."""


class NoElement(NoSuch):
    """No element of the field."""


class NoFormula(NoSuch):
    """No formula."""


class NoTree(NoSuch):
    """No tree."""


class NoText(NoSuch):
    """No text that can be read."""


class NoName(NoSuch):
    """No name, or none that is there; name is what was handed in."""

    def __init__(self, name):
        super().__init__("there is no such name")
        self.name = copied(name)


class NoRoot(NoValue):
    """No root has that place; many is how many roots there are."""

    def __init__(self, many):
        super().__init__("no root has that place")
        self.many = many


class NoReal(NoValue):
    """No real number is the root that is asked for."""


class NoDivision(NoValue):
    """Nothing is divided by 0."""


class TooGreat(NoValue):
    """The outcome could have too great a degree; degree is that one."""

    def __init__(self, degree):
        super().__init__("the degree would be too great")
        self.degree = degree


class Folds(NoValue):
    """By that prime the polynomial has no factors that can be told."""


class NothingBetween(NoValue):
    """The first is not less than the second."""


class NothingLeft(NoValue):
    """The region has no number."""


class Ring(NoValue):
    """Names that need each other; ring is a tuple of them."""

    def __init__(self, ring):
        super().__init__("these names need each other")
        self.ring = ring


class Full(NoValue):
    """The sheet has as many names as it may."""


class NothingDone(NoValue):
    """There is no deed to take back, or to do again."""
