"""Sheets: names, each with a tree that tells how its Real is reckoned."""

from trueroots.errors import Full, NoName, NothingDone, NoTree, Ring
from trueroots.polys import is_poly
from trueroots.reals import number, root
from trueroots.wholes import is_whole

LIMIT = 24
LETTERS = "abcdefghijklmnopqrstuvwxyz"
MOST_LETTERS = 8

# Trees lie at most so many within one another.
DEEPEST = 5
MOST_POWER = 12


def is_name(thing):
    """Whether a thing is a name."""
    if not isinstance(thing, str) or not 1 <= len(thing) <= MOST_LETTERS:
        return False
    return all([letter in LETTERS for letter in thing])


def is_tree(thing):
    """Whether a thing is a tree."""
    return is_tree_within(thing, DEEPEST)


def is_tree_within(thing, deep):
    """Whether a thing is a tree in which at most so many lie within one another."""
    if deep == 0 or not isinstance(thing, tuple) or len(thing) not in (2, 3):
        return False
    if len(thing) == 2:
        return thing[0] == "name" and is_name(thing[1])
    kind, one, other = thing
    if kind == "number":
        return is_whole(one) and is_whole(other) and other > 0
    if kind == "root":
        return is_poly(one) and len(one) > 0 and is_whole(other) and other >= 0
    if kind == "nth" or kind == "raised":
        least = 1 if kind == "nth" else 0
        return is_whole(one) and least <= one <= MOST_POWER and is_tree_within(other, deep - 1)
    if kind not in ("plus", "minus", "times", "over"):
        return False
    return is_tree_within(one, deep - 1) and is_tree_within(other, deep - 1)


def names_in(tree):
    """All names in a tree, from left to right, so often as they are there."""
    if tree[0] == "name":
        return [tree[1]]
    if tree[0] == "number" or tree[0] == "root":
        return []
    if tree[0] == "nth" or tree[0] == "raised":
        return names_in(tree[2])
    return names_in(tree[1]) + names_in(tree[2])


def combined(kind, one, other):
    """The Real that a word of a tree makes of two."""
    if kind == "plus":
        return one.plus(other)
    if kind == "minus":
        return one.minus(other)
    if kind == "times":
        return one.times(other)
    return one.over(other)


class Sheet:
    """Names with their trees; done and undone are deeds (name, tree ahead, tree behind), None for no tree."""

    def __init__(self, *, limit=LIMIT):
        self.limit = limit
        self.trees = {}
        self.done = []
        self.undone = []
        self.steps = []

    def __len__(self):
        return len(self.trees)

    def need_there(self, name):
        """Refuses what is no name, or none on the sheet."""
        if not is_name(name) or name not in self.trees:
            raise NoName(name)

    def plant(self, name, tree):
        """Gives a name a tree, or takes it off where that is None."""
        if tree is None:
            del self.trees[name]
        else:
            self.trees[name] = tree

    def deed(self, name, tree):
        """Does a new deed: nothing is left to be done again then."""
        self.done.append((name, self.trees.get(name), tree))
        self.undone.clear()
        self.plant(name, tree)

    def put(self, name, tree):
        """Gives a name a tree, in the place of its elder one if there is one."""
        if not is_name(name):
            raise NoName(name)
        if not is_tree(tree):
            raise NoTree("that is no tree")
        if name not in self.trees and len(self.trees) >= self.limit:
            raise Full("the sheet has as many names as it may")
        self.deed(name, tree)

    def strike(self, name):
        """Takes a name off."""
        self.need_there(name)
        self.deed(name, None)

    def back(self):
        """Undoes the last deed that was not taken back."""
        if len(self.done) == 0:
            raise NothingDone("there is no deed to take back")
        name, ahead, behind = self.done.pop()
        self.undone.append((name, ahead, behind))
        self.plant(name, ahead)

    def again(self):
        """Does the deed again that was last taken back."""
        if len(self.undone) == 0:
            raise NothingDone("there is no deed to do again")
        name, ahead, behind = self.undone.pop()
        self.done.append((name, ahead, behind))
        self.plant(name, behind)

    def names(self):
        """All names, rising."""
        return sorted(list(self.trees))

    def tree(self, name):
        """The tree of a name."""
        self.need_there(name)
        return self.trees[name]

    def uses(self, name):
        """The names in the tree of a name, rising, each once."""
        self.need_there(name)
        return sorted(set(names_in(self.trees[name])))

    def users(self, name):
        """The names whose trees have a name, rising."""
        if not is_name(name):
            raise NoName(name)
        return [user for user in self.names() if name in names_in(self.trees[user])]

    def order(self):
        """All names, each behind all those on the sheet that its tree has, the least one first where several can be."""
        left = self.names()
        told = []
        while len(left) > 0:
            free = [name for name in left if all([used not in left for used in names_in(self.trees[name])])]
            if len(free) == 0:
                raise Ring(tuple(left))
            told.append(free[0])
            left.remove(free[0])
        return told

    def value(self, name):
        """The Real of a name."""
        if not is_name(name):
            raise NoName(name)
        self.steps = []
        return self.gone_into(name, (), {})

    def gone_into(self, name, entered, found):
        """The Real of a name; entered are those gone into and not out of, found has all Reals found so far."""
        if name in found:
            return found[name]
        if name in entered:
            raise Ring(entered[entered.index(name):])
        if name not in self.trees:
            raise NoName(name)
        self.steps.append(("in", name))
        try:
            found[name] = self.reckoned(self.trees[name], entered + (name,), found)
        finally:
            self.steps.append(("out", name))
        return found[name]

    def reckoned(self, tree, entered, found):
        """The Real that a tree tells, its parts from left to right."""
        kind = tree[0]
        if kind == "number":
            return number(tree[1], tree[2])
        if kind == "root":
            return root(tree[1], tree[2])
        if kind == "name":
            return self.gone_into(tree[1], entered, found)
        if kind == "nth":
            return self.reckoned(tree[2], entered, found).nth(tree[1])
        if kind == "raised":
            return self.reckoned(tree[2], entered, found).raised(tree[1])
        one = self.reckoned(tree[1], entered, found)
        other = self.reckoned(tree[2], entered, found)
        return combined(kind, one, other)

    def walk(self):
        """All that the last asking of value went into and out of, in order."""
        return list(self.steps)

    def twin(self):
        """A sheet of its own with the same names, trees and limit."""
        other = Sheet(limit=self.limit)
        other.trees = {name: self.trees[name] for name in self.trees}
        return other
