"""[21] where it tells of names and trees, [22] and [23]: the sheet."""

import unittest

from nearby import SQUARE_2, SQUARE_3, THREE, refused, square_root
from things import GREAT, NO_POLYS, NO_WHOLES, ODD_THINGS, exchanged, nested, reshaped, seeded

from trueroots.errors import Full, NoDivision, NoName, NoReal, NoRoot, NothingDone, NoTree, Ring, RootError, TooGreat
from trueroots.reals import Real, number, root
from trueroots.sheets import LIMIT, Sheet, is_name, is_tree

NAMES = ["a", "z", "abc", "abcdefgh", "zzzzzzzz", "plus", "root", "name", "nothing", "down", "side", "x"]
NO_NAMES = [thing for thing in ODD_THINGS if thing != "x"] + [
    "A", "aB", "a1", "a b", " a", "a ", "abcdefghi", "a" * 40, "a-b", "a_b", "", "1", 0, 5, -1, (), ("a",), ["a"], "a\n",
    "\u00e9", "\u0430"]
SUMS = ["plus", "minus", "times", "over"]


def whole(top, bottom=1):
    return ("number", top, bottom)


def name(text):
    return ("name", text)


TWO = ("root", SQUARE_2, 1)
MANY = ("plus", ("times", name("a"), ("nth", 2, whole(6, 4))),
        ("over", TWO, ("raised", 0, ("minus", name("b"), name("a")))))


def deep_tree(many):
    """So many trees within one another."""
    tree = whole(1)
    for turn in range(many - 1):
        tree = [("nth", 3, tree), ("plus", tree, TWO), ("times", name("a"), tree), ("raised", 2, tree)][turn % 4]
    return tree


class IsName(unittest.TestCase):
    def test_names(self):
        for text in NAMES + ["a" * many for many in range(1, 9)] + list("abcdefghijklmnopqrstuvwxyz"):
            self.assertIs(is_name(text), True, text)

    def test_no_names(self):
        for thing in NO_NAMES:
            self.assertIs(is_name(thing), False, thing)


class IsTree(unittest.TestCase):
    def yes(self, thing):
        self.assertIs(is_tree(thing), True, thing)

    def no(self, thing):
        self.assertIs(is_tree(thing), False, thing)

    def test_numbers(self):
        for top in [0, 1, -1, 6, GREAT, -GREAT]:
            for bottom in [1, 2, 4, GREAT]:
                self.yes(whole(top, bottom))
            for bottom in [0, -1, -GREAT]:
                self.no(whole(top, bottom))
        for thing in NO_WHOLES:
            self.no(whole(thing, 1))
            self.no(whole(1, thing))
        self.no(("number", 1))
        self.no(("number", 1, 2, 3))

    def test_roots(self):
        for place in [0, 1, 12, GREAT]:
            for poly in [SQUARE_2, (5,), (0, 1), (1,) * 13, (0,) * 12 + (GREAT,)]:
                self.yes(("root", poly, place))
        for place in [-1, -GREAT] + NO_WHOLES:
            self.no(("root", SQUARE_2, place))
        for poly in NO_POLYS + [()]:
            self.no(("root", poly, 0))
        self.no(("root", 0, SQUARE_2))
        self.no(("root", SQUARE_2))

    def test_names(self):
        for text in NAMES:
            self.yes(name(text))
        for thing in NO_NAMES:
            self.no(name(thing))
        self.no(("name", "a", "b"))
        self.no(("name",))

    def test_sums(self):
        for kind in SUMS:
            self.yes((kind, whole(1), name("a")))
            self.no((kind, whole(1)))
            self.no((kind, whole(1), whole(1), whole(1)))
            for thing in [None, 5, "a", (), [], ("name", "A"), list(whole(1))]:
                self.no((kind, thing, whole(1)))
                self.no((kind, whole(1), thing))

    def test_powers(self):
        for kind, least in [("nth", 1), ("raised", 0)]:
            for many in range(least, 13):
                self.yes((kind, many, whole(1)))
            for many in [least - 1, 13, 14, GREAT, -GREAT] + NO_WHOLES:
                self.no((kind, many, whole(1)))
            self.no((kind, whole(1), 2))
            self.no((kind, 2))
            self.no((kind, 2, whole(1), whole(1)))

    def test_five_within_one_another(self):
        for many in range(1, 6):
            self.yes(deep_tree(many))
        for many in [6, 7, 20]:
            self.no(deep_tree(many))
        five = ("plus", deep_tree(4), deep_tree(4))
        self.yes(five)
        self.no(("plus", deep_tree(1), five))
        self.no(("plus", five, deep_tree(1)))
        self.no(("nth", 1, five))

    def test_one_thing_exchanged(self):
        self.yes(MANY)
        for other in [None, True, "", "A", [], ["a"], (None,), ("name",), ("number", 1), (), 1.5]:
            for thing in exchanged(MANY, other):
                self.no(thing)
        for other in ["a", -1, 13]:
            for thing in exchanged(MANY, other):
                if thing != MANY:
                    self.assertIs(is_tree(thing), slow_is_tree(thing), thing)
        for thing in reshaped(MANY):
            self.no(thing)

    def test_things_of_all_kinds(self):
        for thing in ODD_THINGS + [0, 1, (), "a", ("a",), nested(24, tuple), nested(24, list), SQUARE_2, list(TWO)]:
            self.no(thing)
            self.no(("nth", 2, thing))
            self.no((thing, whole(1), whole(1)))
            self.no((thing, "a"))


def slow_is_tree(thing):
    """By the words of the document, for things of small depth that are tuples where trees are."""
    if not isinstance(thing, tuple) or not thing:
        return False
    kind, parts = thing[0], thing[1:]
    if kind == "name":
        return len(parts) == 1 and parts[0] in NAMES + ["b"]
    if len(parts) != 2:
        return False
    if kind == "number":
        return type(parts[0]) is int and type(parts[1]) is int and parts[1] > 0
    if kind == "root":
        good = isinstance(parts[0], tuple) and all([type(part) is int for part in parts[0]])
        return good and parts[0][-1] != 0 and type(parts[1]) is int and parts[1] >= 0
    if kind in SUMS:
        return slow_is_tree(parts[0]) and slow_is_tree(parts[1])
    low = {"nth": 1, "raised": 0}.get(kind, 99) if isinstance(kind, str) else 99
    return type(parts[0]) is int and low <= parts[0] <= 12 and slow_is_tree(parts[1])


class Deeds(unittest.TestCase):
    """[22]"""

    def seen(self, sheet):
        """All that can be told of a sheet's names."""
        return [(each, sheet.tree(each), sheet.uses(each), sheet.users(each)) for each in sheet.names()], len(sheet)

    def filled(self, **named):
        sheet = Sheet(**named)
        for text, tree in [("b", name("a")), ("a", TWO), ("c", ("plus", name("a"), name("b")))]:
            sheet.put(text, tree)
        return sheet

    def test_put(self):
        sheet = Sheet()
        self.assertEqual((sheet.names(), len(sheet)), ([], 0))
        self.assertIsNone(sheet.put("b", TWO))
        sheet.put("a", whole(6, 4))
        self.assertEqual((sheet.names(), len(sheet)), (["a", "b"], 2))
        self.assertEqual((sheet.tree("a"), sheet.tree("b")), (whole(6, 4), TWO))
        sheet.put("b", name("a"))
        self.assertEqual((sheet.names(), len(sheet), sheet.tree("b")), (["a", "b"], 2, name("a")))

    def test_strike(self):
        sheet = self.filled()
        self.assertIsNone(sheet.strike("a"))
        self.assertEqual((sheet.names(), len(sheet)), (["b", "c"], 2))
        refused(self, NoName, sheet.tree, "a")
        self.assertEqual(refused(self, NoName, sheet.strike, "a").name, "a")
        sheet.put("a", whole(1))
        self.assertEqual(sheet.tree("a"), whole(1))

    def test_back_and_again(self):
        sheet = Sheet()
        states = [self.seen(sheet)]
        for deed in [("put", "a", TWO), ("put", "b", name("a")), ("put", "a", whole(3)), ("strike", "b"),
                     ("put", "b", whole(5)), ("strike", "a")]:
            getattr(sheet, deed[0])(*deed[1:])
            states.append(self.seen(sheet))
        for turn in range(2):
            for state in states[-2::-1]:
                self.assertIsNone(sheet.back())
                self.assertEqual(self.seen(sheet), state)
            refused(self, NothingDone, sheet.back)
            self.assertEqual(self.seen(sheet), states[0])
            for state in states[1:]:
                self.assertIsNone(sheet.again())
                self.assertEqual(self.seen(sheet), state)
            refused(self, NothingDone, sheet.again)
            self.assertEqual(self.seen(sheet), states[-1])

    def test_a_new_deed_behind_a_step_back(self):
        for deed in [("put", "c", whole(1)), ("put", "a", TWO), ("strike", "a")]:
            sheet = Sheet()
            sheet.put("a", TWO)
            sheet.put("b", TWO)
            sheet.back()
            getattr(sheet, deed[0])(*deed[1:])
            refused(self, NothingDone, sheet.again)
            sheet.back()
            self.assertEqual(sheet.names(), ["a"])
            sheet.again()
            refused(self, NothingDone, sheet.again)
            sheet.back()
            sheet.back()
            refused(self, NothingDone, sheet.back)
            self.assertEqual(sheet.names(), [])

    def test_a_refused_deed_is_none(self):
        sheet = Sheet(limit=1)
        sheet.put("a", TWO)
        sheet.put("a", whole(1))
        sheet.back()
        before = self.seen(sheet)
        refused(self, Full, sheet.put, "b", TWO)
        refused(self, NoName, sheet.put, "B", TWO)
        refused(self, NoTree, sheet.put, "a", None)
        refused(self, NoName, sheet.strike, "b")
        self.assertEqual(self.seen(sheet), before)
        # What was taken back can be done again still.
        sheet.again()
        self.assertEqual(sheet.tree("a"), whole(1))

    def test_nothing_done(self):
        sheet = Sheet()
        refused(self, NothingDone, sheet.back)
        refused(self, NothingDone, sheet.again)
        sheet.put("a", TWO)
        refused(self, NothingDone, sheet.again)
        sheet.names(), sheet.walk(), sheet.value("a"), sheet.order()
        sheet.back()
        refused(self, NothingDone, sheet.back)

    def test_limits(self):
        texts = [first + second for first in "abcde" for second in "abcdefgh"]
        for limit in range(1, 25):
            sheet = Sheet(limit=limit)
            for at in range(limit):
                sheet.put(texts[at], whole(at))
            refused(self, Full, sheet.put, "zz", TWO)
            self.assertEqual((len(sheet), sheet.names()), (limit, sorted(texts[:limit])))
            # In the place of an elder name there is room.
            sheet.put(texts[0], TWO)
            sheet.strike(texts[0])
            sheet.put("zz", TWO)
            refused(self, Full, sheet.put, texts[0], TWO)
            sheet.back()
            sheet.back()
            refused(self, Full, sheet.put, "zz", TWO)
        sheet = Sheet()
        for at in range(24):
            sheet.put(texts[at], whole(at))
        refused(self, Full, sheet.put, "zz", TWO)
        self.assertEqual((LIMIT, len(sheet)), (24, 24))

    def test_somewhat_beyond_the_limit(self):
        sheet = Sheet(limit=26)
        for text in "abcdefghijklmnopqrstuvwxyz":
            sheet.put(text, whole(1))
        refused(self, Full, sheet.put, "aa", TWO)

    def test_refusals_in_their_order(self):
        sheet = Sheet(limit=1)
        sheet.put("a", TWO)
        for thing in NO_NAMES:
            for tree in [TWO, None, ("name", "A")]:
                error = refused(self, NoName, sheet.put, thing, tree)
                self.assertEqual(error.name, thing)
                self.assertIs(type(error.name), type(thing))
        for thing in ODD_THINGS + [0, (), "a", list(TWO), deep_tree(6), ("number", 1, 0)]:
            refused(self, NoTree, sheet.put, "a", thing)
            refused(self, NoTree, sheet.put, "b", thing)
        refused(self, Full, sheet.put, "b", TWO)
        self.assertEqual((sheet.names(), sheet.tree("a")), (["a"], TWO))

    def test_no_name_at_each_door(self):
        sheet = self.filled()
        before = self.seen(sheet)
        for ask in [sheet.strike, sheet.tree, sheet.uses, sheet.users, sheet.value]:
            for thing in NO_NAMES:
                error = refused(self, NoName, ask, thing)
                self.assertEqual(error.name, thing)
                self.assertIs(type(error.name), type(thing))
        for ask in [sheet.strike, sheet.tree, sheet.uses, sheet.value]:
            for text in ["d", "zz", "plus"]:
                self.assertEqual(refused(self, NoName, ask, text).name, text)
        self.assertEqual(self.seen(sheet), before)

    def test_a_list_as_a_name_is_kept_as_a_copy(self):
        handed = ["a"]
        error = refused(self, NoName, Sheet().put, handed, TWO)
        handed.append("b")
        self.assertEqual(error.name, ["a"])

    def test_uses_and_users(self):
        sheet = self.filled()
        sheet.put("d", MANY)
        sheet.put("e", ("times", name("zz"), ("plus", name("e"), name("c"))))
        self.assertEqual([sheet.uses(each) for each in sheet.names()],
                         [[], ["a"], ["a", "b"], ["a", "b"], ["c", "e", "zz"]])
        self.assertEqual([sheet.users(each) for each in ["a", "b", "c", "d", "e", "zz", "none"]],
                         [["b", "c", "d"], ["c", "d"], ["e"], [], ["e"], ["e"], []])
        sheet.put("b", whole(1))
        self.assertEqual((sheet.users("a"), sheet.uses("b")), (["c", "d"], []))

    def test_new_lists_each_time(self):
        sheet = self.filled()
        for ask in [sheet.names, sheet.order, sheet.walk, lambda: sheet.uses("c"), lambda: sheet.users("a")]:
            sheet.value("c")
            before = ask()
            self.assertIs(type(before), list)
            ask().clear()
            ask().append("zz")
            self.assertEqual(ask(), before)
            self.assertTrue(before)

    def test_twin(self):
        sheet = self.filled(limit=4)
        sheet.value("c")
        sheet.back()
        twin = sheet.twin()
        self.assertIs(type(twin), Sheet)
        self.assertEqual(self.seen(twin), self.seen(sheet))
        self.assertEqual(twin.walk(), [])
        refused(self, NothingDone, twin.back)
        refused(self, NothingDone, twin.again)
        twin.put("d", whole(1))
        twin.put("e", whole(1))
        refused(self, Full, twin.put, "f", whole(1))
        twin.strike("a")
        self.assertEqual((sheet.names(), twin.names()), (["a", "b"], ["b", "d", "e"]))
        sheet.again()
        sheet.put("a", whole(9))
        self.assertEqual((sheet.names(), twin.names(), len(twin)), (["a", "b", "c"], ["b", "d", "e"], 3))
        refused(self, NoName, twin.value, "a")
        self.assertEqual(sheet.value("a"), number(9))
        self.assertEqual((sheet.walk(), twin.walk()), ([("in", "a"), ("out", "a")], []))

    def test_against_a_list_of_states(self):
        source = seeded("deeds")
        for turn in range(30):
            limit = source.choice([1, 2, 3, 24])
            sheet, states, at = Sheet(limit=limit), [{}], 0
            for step in range(60):
                now = states[at]
                deed, text = source.choice(["put", "put", "strike", "back", "again"]), source.choice("abcd")
                tree = source.choice([TWO, whole(step), name(source.choice("abcd")), MANY])
                if deed == "put" and (text in now or len(now) < limit):
                    sheet.put(text, tree)
                    states, at = states[:at + 1] + [{**now, text: tree}], at + 1
                elif deed == "put":
                    refused(self, Full, sheet.put, text, tree)
                elif deed == "strike" and text in now:
                    sheet.strike(text)
                    states, at = states[:at + 1] + [{each: now[each] for each in now if each != text}], at + 1
                elif deed == "strike":
                    refused(self, NoName, sheet.strike, text)
                elif (at > 0) if deed == "back" else (at + 1 < len(states)):
                    getattr(sheet, deed)()
                    at += -1 if deed == "back" else 1
                else:
                    refused(self, NothingDone, getattr(sheet, deed))
                self.assertEqual({each: sheet.tree(each) for each in sheet.names()}, states[at])
                self.assertEqual(len(sheet), len(states[at]))


class Order(unittest.TestCase):
    """[23], the order."""

    def sheet_of(self, **uses):
        """A sheet on which each name's tree has just the letters told."""
        sheet = Sheet()
        for text, used in uses.items():
            tree = whole(1)
            for letter in used:
                tree = ("plus", name(letter), tree)
            sheet.put(text, tree)
        return sheet

    def test_by_hand(self):
        self.assertEqual(Sheet().order(), [])
        self.assertEqual(self.sheet_of(c="", a="", b="").order(), ["a", "b", "c"])
        self.assertEqual(self.sheet_of(a="b", b="c", c="").order(), ["c", "b", "a"])
        self.assertEqual(self.sheet_of(a="c", b="", c="").order(), ["b", "c", "a"])
        # As soon as it can be, a lesser one goes ahead of a greater one that could be next for long.
        self.assertEqual(self.sheet_of(a="b", b="", c="", d="").order(), ["b", "a", "c", "d"])
        self.assertEqual(self.sheet_of(a="d", b="a", c="", d="").order(), ["c", "d", "a", "b"])

    def test_names_that_are_not_on_the_sheet(self):
        self.assertEqual(self.sheet_of(a="z", b="ay", c="x").order(), ["a", "b", "c"])
        self.assertEqual(self.sheet_of(a="zb", b="z").order(), ["b", "a"])

    def test_ring(self):
        for uses, ring in [({"a": "a"}, ("a",)), ({"a": "b", "b": "a"}, ("a", "b")),
                           ({"a": "b", "b": "a", "c": "a", "d": ""}, ("a", "b", "c")),
                           ({"d": "c", "c": "d", "b": "", "a": "b"}, ("c", "d")),
                           ({"a": "", "b": "ab", "c": "b", "e": "c", "f": "a"}, ("b", "c", "e"))]:
            sheet = self.sheet_of(**uses)
            error = refused(self, Ring, sheet.order)
            self.assertEqual(error.ring, ring)
            self.assertIs(type(error.ring), tuple)
            self.assertEqual(sheet.names(), sorted(uses))

    def test_against_trying(self):
        source = seeded("order")
        for turn in range(100):
            letters = "abcdefg"[:source.randint(1, 7)]
            uses = {each: "".join([used for used in "abcdefgyz" if source.random() < 0.15][:4]) for each in letters}
            sheet, due = self.sheet_of(**uses), []
            while True:
                free = [each for each in sorted(uses) if each not in due
                        and not [used for used in uses[each] if used in uses and used not in due]]
                if not free:
                    break
                due.append(free[0])
            if len(due) == len(uses):
                self.assertEqual(sheet.order(), due)
            else:
                left = tuple([each for each in sorted(uses) if each not in due])
                self.assertEqual(refused(self, Ring, sheet.order).ring, left)


class Value(unittest.TestCase):
    """[23], values and the walk."""

    def sheet_of(self, **trees):
        sheet = Sheet()
        for text, tree in trees.items():
            sheet.put(text, tree)
        return sheet

    def walked(self, text):
        """A walk written short: a letter for each in, a capital for each out."""
        return [("in", sign) if sign.islower() else ("out", sign.lower()) for sign in text]

    def test_each_kind(self):
        sheet = self.sheet_of(
            a=TWO, b=whole(-6, 4), c=("plus", name("a"), name("b")), d=("minus", name("a"), name("b")),
            e=("times", name("a"), name("b")), f=("over", name("a"), name("b")), g=("nth", 3, name("b")),
            h=("raised", 5, name("a")), i=name("c"), j=("root", THREE, 2), k=("raised", 0, name("b")))
        two, other = square_root(2), number(-3, 2)
        for text, due in [("a", two), ("b", other), ("c", two.plus(other)), ("d", two.minus(other)),
                          ("e", two.times(other)), ("f", two.over(other)), ("g", other.nth(3)), ("h", two.raised(5)),
                          ("i", two.plus(other)), ("j", root(THREE, 2)), ("k", number(1))]:
            found = sheet.value(text)
            self.assertIs(type(found), Real)
            self.assertEqual(found, due)
            self.assertEqual(sheet.value(text), due)

    def test_by_the_names_as_they_are_now(self):
        sheet = self.sheet_of(a=TWO, b=("times", name("a"), name("a")))
        self.assertEqual(sheet.value("b"), number(2))
        sheet.put("a", whole(5))
        self.assertEqual(sheet.value("b"), number(25))
        sheet.back()
        self.assertEqual(sheet.value("b"), number(2))
        sheet.strike("a")
        self.assertEqual(refused(self, NoName, sheet.value, "b").name, "a")
        sheet.back()
        self.assertEqual(sheet.value("b"), number(2))

    def test_walk(self):
        sheet = self.sheet_of(a=whole(1), b=("plus", name("a"), name("a")), c=("plus", name("b"), name("a")),
                              d=("times", name("a"), ("plus", name("c"), name("b"))))
        self.assertEqual(sheet.walk(), [])
        for text, due in [("a", "aA"), ("b", "baAB"), ("c", "cbaABC"), ("d", "daAcbBCD")]:
            sheet.value(text)
            self.assertEqual(sheet.walk(), self.walked(due))

    def test_left_ahead_of_right(self):
        sheet = self.sheet_of(a=whole(1), b=whole(2), c=("minus", ("over", name("b"), whole(3)), name("a")))
        self.assertEqual(sheet.value("c"), number(-1, 3))
        self.assertEqual(sheet.walk(), self.walked("cbBaAC"))

    def test_ring(self):
        for trees, asked, ring, walk in [
                ({"a": name("a")}, "a", ("a",), "aA"),
                ({"a": name("b"), "b": name("a")}, "a", ("a", "b"), "abBA"),
                ({"a": name("b"), "b": name("a")}, "b", ("b", "a"), "baAB"),
                ({"c": name("b"), "b": name("d"), "d": name("b")}, "c", ("b", "d"), "cbdDBC"),
                ({"a": ("plus", name("b"), name("c")), "b": whole(1), "c": name("a")}, "a", ("a", "c"), "abBcCA"),
                ({"z": name("y"), "y": name("x"), "x": name("z")}, "z", ("z", "y", "x"), "zyxXYZ")]:
            sheet = self.sheet_of(**trees)
            error = refused(self, Ring, sheet.value, asked)
            self.assertEqual(error.ring, ring)
            self.assertIs(type(error.ring), tuple)
            self.assertEqual(sheet.walk(), self.walked(walk))
            self.assertEqual(sheet.names(), sorted(trees))

    def test_names_that_are_not_on_the_sheet(self):
        sheet = self.sheet_of(a=name("b"), c=("plus", whole(1), name("z")), d=("plus", name("c"), name("a")))
        self.assertEqual(refused(self, NoName, sheet.value, "a").name, "b")
        self.assertEqual(sheet.walk(), self.walked("aA"))
        self.assertEqual(refused(self, NoName, sheet.value, "d").name, "z")
        self.assertEqual(sheet.walk(), self.walked("dcCD"))
        self.assertEqual(refused(self, NoName, sheet.value, "q").name, "q")
        self.assertEqual(sheet.walk(), [])

    def test_what_is_no_name_leaves_the_walk(self):
        sheet = self.sheet_of(a=whole(1), b=name("b"))
        sheet.value("a")
        for thing in NO_NAMES:
            refused(self, NoName, sheet.value, thing)
            self.assertEqual(sheet.walk(), self.walked("aA"))
        refused(self, Ring, sheet.value, "b")
        refused(self, NoName, sheet.value, "B")
        self.assertEqual(sheet.walk(), self.walked("bB"))

    def test_other_deeds_leave_the_walk(self):
        sheet = self.sheet_of(a=whole(1))
        sheet.value("a")
        sheet.put("b", TWO)
        sheet.back()
        sheet.again()
        sheet.strike("a")
        sheet.order(), sheet.names(), sheet.users("a")
        self.assertEqual(sheet.walk(), self.walked("aA"))

    def test_the_first_refusal(self):
        low = ("minus", whole(0), TWO)
        for tree, error, told in [
                (("root", SQUARE_2, 2), NoRoot, {"many": 2}), (("root", (1, 0, 1), 0), NoRoot, {"many": 0}),
                (("over", whole(1), ("minus", TWO, TWO)), NoDivision, {}), (("nth", 2, low), NoReal, {}),
                (("plus", ("nth", 4, whole(2)), ("nth", 4, whole(3))), TooGreat, {"degree": 16}),
                (("nth", 7, TWO), TooGreat, {"degree": 14}), (("nth", 8, low), TooGreat, {"degree": 16}),
                (("plus", name("q"), name("a")), NoName, {"name": "q"}),
                (("plus", name("a"), name("q")), Ring, {"ring": ("a",)}),
                (("plus", ("root", SQUARE_2, 5), name("q")), NoRoot, {"many": 2}),
                (("plus", name("q"), ("root", SQUARE_2, 5)), NoName, {"name": "q"}),
                (("over", ("nth", 2, whole(-1)), whole(0)), NoReal, {}),
                (("over", whole(1), ("times", whole(0), name("q"))), NoName, {"name": "q"})]:
            sheet = self.sheet_of(a=tree, c=whole(4))
            caught = refused(self, error, sheet.value, "a")
            self.assertEqual({field: getattr(caught, field) for field in told}, told)
            self.assertEqual(sheet.walk(), self.walked("aA"))
            self.assertEqual((sheet.names(), sheet.tree("a")), (["a", "c"], tree))
            self.assertEqual(sheet.value("c"), number(4))

    def test_refused_within(self):
        sheet = self.sheet_of(a=("over", whole(1), name("z")), b=("plus", name("c"), name("a")), c=whole(3),
                              d=("plus", name("b"), name("c")), z=whole(0))
        refused(self, NoDivision, sheet.value, "d")
        self.assertEqual(sheet.walk(), self.walked("dbcCazZABD"))
        sheet.put("z", whole(2))
        self.assertEqual(sheet.value("d"), number(13, 2))

    def test_a_long_way(self):
        texts = ["x" + letter for letter in "abcdefghijklmnopqrstuvw"]
        sheet = self.sheet_of(start=whole(1))
        last = "start"
        for text in texts:
            tree = name(last)
            for turn in range(4):
                tree = ("plus", tree, whole(1)) if turn % 2 else ("plus", whole(1), tree)
            sheet.put(text, tree)
            last = text
        self.assertEqual(len(sheet), 24)
        self.assertEqual(sheet.value(last), number(1 + 4 * 23))
        self.assertEqual(len(sheet.walk()), 48)
        self.assertEqual(sheet.order(), ["start"] + texts)
        sheet.put("start", name(last))
        self.assertEqual(refused(self, Ring, sheet.value, last).ring, tuple(texts[::-1] + ["start"]))

    def test_against_a_second_way(self):
        source = seeded("values")
        for turn in range(300):
            letters = "abcdef"[:source.randint(1, 6)]
            # Mostly lesser names, so that many of them have a Real.
            trees = {each: self.some_tree(source, source.randint(1, 4), (letters[:at] or "a") * 5 + letters + "g")
                     for at, each in enumerate(letters)}
            sheet = self.sheet_of(**trees)
            asked = source.choice(letters[-1] * 3 + "abcdefg")
            walk, found = [], {}
            try:
                due = self.slow_value(trees, asked, walk, [], found)
            except RootError as error:
                caught = refused(self, type(error), sheet.value, asked)
                self.assertEqual(vars(caught), vars(error))
            else:
                self.assertEqual(sheet.value(asked), due)
            self.assertEqual(sheet.walk(), walk)

    def some_tree(self, source, deep, names):
        kind = source.choice(["number", "root", "name", "name"] + (SUMS + ["nth", "raised"]) * 2 if deep > 1 else
                             ["number", "root", "name", "name"])
        if kind == "number":
            return whole(source.randint(-3, 3), source.randint(1, 3))
        if kind == "root":
            return ("root", source.choice([SQUARE_2, SQUARE_3, (1, 1)]), source.choice([0, 0, 0, 0, 1, 2]))
        if kind == "name":
            return name(source.choice(names))
        if kind in SUMS:
            return (kind, self.some_tree(source, deep - 1, names), self.some_tree(source, deep - 1, names))
        return (kind, source.randint(1, 3), self.some_tree(source, deep - 1, names))

    def slow_value(self, trees, asked, walk, entered, found):
        """By the words of the document, with the walk."""
        if asked in entered:
            raise Ring(tuple(entered[entered.index(asked):]))
        if asked not in trees:
            raise NoName(asked)
        walk.append(("in", asked))
        entered.append(asked)
        try:
            found[asked] = self.slow_tree(trees, trees[asked], walk, entered, found)
        finally:
            entered.pop()
            walk.append(("out", asked))
        return found[asked]

    def slow_tree(self, trees, tree, walk, entered, found):
        kind = tree[0]
        if kind == "number":
            return number(*tree[1:])
        if kind == "root":
            return root(*tree[1:])
        if kind == "name":
            return found[tree[1]] if tree[1] in found else self.slow_value(trees, tree[1], walk, entered, found)
        if kind in ("nth", "raised"):
            return getattr(self.slow_tree(trees, tree[2], walk, entered, found), kind)(tree[1])
        one = self.slow_tree(trees, tree[1], walk, entered, found)
        return getattr(one, kind)(self.slow_tree(trees, tree[2], walk, entered, found))


if __name__ == "__main__":
    unittest.main()
