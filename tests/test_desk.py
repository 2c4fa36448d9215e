"""[24] and [25]: the desk, each row and each refusal by its word."""

import unittest

from things import GREAT, seeded

from trueroots.desk import Desk
from trueroots.errors import RootError
from trueroots.reals import between, number, roots
from trueroots.regions import region
from trueroots.sheets import Sheet
from trueroots.texts import read_formula, read_poly, read_real, read_tree, write_pieces, write_tree

TEXT = "refused text"


class Asked(unittest.TestCase):
    def setUp(self):
        self.desk = Desk()

    def ask(self, row, due):
        before = len(self.desk)
        answer = self.desk.ask(row)
        self.assertEqual(answer, due, row)
        self.assertIs(type(answer), str)
        self.assertEqual(self.desk.told()[before:], [(row, due)])
        self.assertEqual(len(self.desk), before + 1)

    def all(self, *pairs):
        for row, due in pairs:
            self.ask(row, due)


class Rows(Asked):
    def test_deeds(self):
        self.all(("put a (root 1 x^2-2)", "done"), ("put b (plus a 1)", "done"), ("names", "a b"), ("strike a", "done"),
                 ("names", "b"), ("back", "done"), ("names", "a b"), ("again", "done"), ("names", "b"), ("back", "done"),
                 ("back", "done"), ("back", "done"), ("names", "nothing"), ("back", "refused done"), ("again", "done"),
                 ("names", "a"), ("put a 5", "done"), ("again", "refused done"), ("tell a", "5"))

    def test_tell_and_tree(self):
        self.all(("put a 6/4", "done"), ("tell a", "3/2"), ("tree a", "6/4"), ("put b (nth 2 (plus a 1/2))", "done"),
                 ("tell b", "root 1 x^2-2"), ("tree b", "(nth 2 (plus a 1/2))"), ("put c (times b b)", "done"),
                 ("tell c", "2"), ("put d (minus 0 c)", "done"), ("tell d", "-2"), ("put plus plus", "done"),
                 ("tree plus", "plus"), ("put x (over (raised 3 b) (root 0 3x^2-5))", "done"),
                 ("tell x", "root 0 5x^2-24"))

    def test_near(self):
        self.all(("put a (root 1 x^2-2)", "done"), ("near a 1", "1"), ("near a 10", "7/5"), ("near a 1000", "707/500"),
                 ("put b (minus 0 a)", "done"), ("near b 1", "-2"), ("near b 1000", "-283/200"),
                 ("put c 1/3", "done"), ("near c 3", "1/3"), ("near c 2", "0"), ("near a 100", "141/100"))
        great = "1" + "0" * 399
        top, bottom = self.desk.ask("near a " + great).split("/")
        top, bottom = int(top), int(bottom)
        self.assertEqual(10 ** 399 % bottom, 0)
        scale = 10 ** 399 // bottom
        self.assertTrue((top * scale) ** 2 < 2 * 10 ** 798 < (top * scale + 1) ** 2)

    def test_side_and_between(self):
        self.all(("put a (root 1 x^2-2)", "done"), ("put b 3/2", "done"), ("put c (nth 2 2)", "done"),
                 ("side a b", "less"), ("side b a", "more"), ("side a c", "same"), ("side a a", "same"),
                 ("between a b", "10/7"), ("put d 2", "done"), ("between a d", "3/2"), ("between b d", "5/3"),
                 ("put e 4", "done"), ("between b e", "2"), ("put f -4", "done"), ("between f e", "0"))

    def test_names_order_uses_users(self):
        self.all(("names", "nothing"), ("order", "nothing"), ("put b (plus c c)", "done"), ("put c 1", "done"),
                 ("put a (times b (plus c z))", "done"), ("names", "a b c"), ("order", "c b a"), ("uses a", "b c z"),
                 ("uses b", "c"), ("uses c", "nothing"), ("users c", "a b"), ("users a", "nothing"), ("users z", "a"),
                 ("users q", "nothing"))

    def test_roots(self):
        self.all(("roots x^2-2", "root 0 x^2-2, root 1 x^2-2"), ("roots x^3-x", "-1, 0, 1"), ("roots x^2+1", "nothing"),
                 ("roots 5", "nothing"), ("roots 2x-1", "1/2"), ("roots x^12", "0"),
                 ("roots x^4-5x^2+6", "root 0 x^2-3, root 0 x^2-2, root 1 x^2-2, root 1 x^2-3"),
                 ("roots 0", "refused nought"))

    def test_formulas(self):
        self.all(("where (side <= x^2-2)", "[root 0 x^2-2, root 1 x^2-2]"), ("where (all)", "(down, up)"),
                 ("where (some)", "nothing"), ("where (not (side = x))", "(down, 0) (0, up)"),
                 ("where (all (side > x) (side <= x-3))", "(0, 3]"), ("some (side = x-7)", "7"),
                 ("some (side < x^2)", "refused none"), ("some (some)", "refused none"),
                 ("put a (root 1 x^2-2)", "done"), ("holds a (side = x^2-2)", "yes"), ("holds a (side < x^2-2)", "no"),
                 ("holds a (all)", "yes"), ("holds a (some)", "no"))
        for formula in ["(side > x^2-2)", "(side < x^2-2)", "(all)", "(side = x^3-3x+1)"]:
            found = read_real(self.desk.ask("some " + formula))
            self.assertTrue(region(read_formula(formula)).holds(found))

    def test_read(self):
        self.all(("read root 1 x^2-2", "root 1 x^2-2"), ("read -3/4", "-3/4"), ("read 0", "0"), ("read 6/4", TEXT),
                 ("read root 2 x^2-2", TEXT), ("read root 0 x^2-4", TEXT), ("read x", TEXT), ("read (root 1 x^2-2)", TEXT),
                 ("read", TEXT), ("read ", TEXT), ("read  0", TEXT), ("read 0 ", TEXT))


class Refusals(Asked):
    def test_rows_that_are_none(self):
        for row in ["", " ", "put", "foo", "foo a", "Put a 1", "PUT a 1", "puta 1", "tel a", "help", "a", "5", "x^2-2",
                    "(all)", "namesx", "done", "nothing", "near", "side", "value a", "twin", "walk", "ask names"]:
            self.ask(row, TEXT)
        self.ask("names", "nothing")

    def test_a_word_more_or_less(self):
        self.all(("put a 1", "done"), ("put b 2", "done"))
        for row in ["put", "put a", "put a ", "put a 1 2", "put a b 1", "strike", "strike ", "strike a b", "back a", "back 1",
                    "again a", "tell", "tell ", "tell a b", "tree", "tree a b", "near", "near a", "near a 5 6", "near a b 5",
                    "near 5", "side", "side a", "side a ", "side a b a", "between", "between a", "between a b b", "names a",
                    "order a", "uses", "uses a b", "users", "users a b", "roots", "roots ", "roots x 1", "where", "where ",
                    "where (all) (all)", "some", "some (all) x", "holds", "holds a", "holds a ", "holds (all)",
                    "holds a b (all)", "holds a (all) (all)", "read", "read 1 2", "read root 0"]:
            self.ask(row, TEXT)
        self.all(("names", "a b"), ("tell a", "1"), ("back", "done"), ("names", "a"))

    def test_needless_blanks(self):
        self.all(("put a 1", "done"), ("put b 2", "done"))
        for row in ["put a 1", "strike a", "back", "again", "tell a", "tree a", "near a 5", "side a b", "between a b", "names",
                    "order", "uses a", "users a", "roots x", "where (all)", "some (all)", "holds a (side < x)", "read 1"]:
            self.ask(" " + row, TEXT)
            self.ask(row + " ", TEXT)
            for at, sign in enumerate(row):
                if sign == " ":
                    self.ask(row[:at] + " " + row[at:], TEXT)
        self.ask("names", "a b")

    def test_texts_that_are_none(self):
        self.ask("put a 1", "done")
        for row in ["put b (plus a)", "put b A", "put b 5/1", "put b (root 0 0)", "put b (nth 13 a)", "put b abcdefghi",
                    "put b (all)", "near a 0", "near a -5", "near a 05", "near a +5", "near a x", "near a 1/2", "near a a",
                    "near a 5.0", "near a " + "1" * 401, "roots y", "roots 1+x", "roots x^13", "roots x^2 - 2", "roots 1/2",
                    "where x", "where (side < y)", "where (plus a 1)", "where (side < x", "some (any)", "holds a x",
                    "holds a (side == x)", "read a", "read 1/0", "read root 0 x"]:
            self.ask(row, TEXT)
        self.ask("near a " + "1" * 400, "1")

    def test_names(self):
        self.ask("put a 1", "done")
        for word in ["A", "abcdefghi", "a1", "5", "(all)", "x^2-2", "-", "1/2", "a,"]:
            due = "refused name " + word
            self.all((f"put {word} 1", due), (f"strike {word}", due), (f"tell {word}", due), (f"tree {word}", due),
                     (f"near {word} 5", due), (f"side {word} a", due), (f"side a {word}", due), (f"between {word} a", due),
                     (f"between a {word}", due), (f"uses {word}", due), (f"users {word}", due),
                     (f"holds {word} (all)", due))
        for row in ["strike b", "tell b", "tree b", "near b 5", "side b a", "side a b", "between b a", "between a b",
                    "uses b", "holds b (all)"]:
            self.ask(row, "refused name b")
        self.all(("users b", "nothing"), ("put c (plus a q)", "done"), ("tell c", "refused name q"),
                 ("near c 5", "refused name q"), ("holds c (all)", "refused name q"), ("names", "a c"))

    def test_values(self):
        self.all(("put a (root 2 x^2-2)", "done"), ("tell a", "refused root 2"), ("put a (root 0 x^2+1)", "done"),
                 ("tell a", "refused root 0"), ("put a (nth 4 2)", "done"), ("put b (times a a)", "done"),
                 ("tell b", "refused degree 16"), ("put b (nth 7 (nth 2 2))", "done"), ("tell b", "refused degree 14"),
                 ("put b (nth 2 -1)", "done"), ("tell b", "refused real"), ("put b (over 1 (minus 2 2))", "done"),
                 ("tell b", "refused division"), ("near b 5", "refused division"), ("side b c", "refused division"),
                 ("side c b", "refused name c"), ("between b a", "refused division"), ("holds b (all)", "refused division"))

    def test_rings(self):
        self.all(("put a b", "done"), ("put b c", "done"), ("put c (plus b 1)", "done"), ("put d d", "done"),
                 ("tell a", "refused ring b c"), ("tell b", "refused ring b c"), ("tell c", "refused ring c b"),
                 ("tell d", "refused ring d"), ("order", "refused ring a b c d"), ("put c 1", "done"), ("tell a", "1"),
                 ("order", "refused ring d"), ("strike d", "done"), ("order", "c b a"))

    def test_between_none_full_done(self):
        self.all(("put a 1", "done"), ("put b 1", "done"), ("between a b", "refused between"), ("put c 2", "done"),
                 ("between c a", "refused between"), ("between a c", "3/2"), ("some (side < x^2)", "refused none"))
        self.desk = Desk(limit=1)
        self.all(("again", "refused done"), ("back", "refused done"), ("put a 1", "done"), ("put b 1", "refused full"),
                 ("put a 2", "done"), ("put B 1", "refused name B"), ("names", "a"))

    def test_two_things_wrong_in_one_row(self):
        self.desk = Desk(limit=2)
        self.all(("put a (over 1 0)", "done"), ("put b b", "done"))
        self.all(("put A (plus", TEXT), ("put A 1", "refused name A"), ("put c (plus", TEXT), ("put c 1", "refused full"),
                 ("near A 0", TEXT), ("near A 5", "refused name A"), ("near a 0", TEXT), ("holds A x", TEXT),
                 ("holds A (all)", "refused name A"), ("holds b x", TEXT), ("side a b", "refused division"),
                 ("side b a", "refused ring b"), ("side A b", "refused name A"), ("side b A", "refused ring b"),
                 ("between a A", "refused division"), ("between q A", "refused name q"), ("strike A b", TEXT),
                 ("roots 0 0", TEXT), ("read root 0 0", TEXT), ("some (side < x^2", TEXT))


class Told(Asked):
    def test_told_and_len(self):
        self.assertEqual((self.desk.told(), len(self.desk)), ([], 0))
        rows = ["put a 1", "put b", "tell a", "tell a", "", "names"]
        answers = [self.desk.ask(row) for row in rows]
        self.assertEqual(answers, ["done", TEXT, "1", "1", TEXT, "a"])
        self.assertEqual(self.desk.told(), list(zip(rows, answers)))
        self.assertEqual(len(self.desk), 6)

    def test_a_new_list_each_time(self):
        self.desk.ask("names")
        self.desk.told().clear()
        self.desk.told().append(("x", "y"))
        self.assertEqual(self.desk.told(), [("names", "nothing")])
        for row in self.desk.told():
            self.assertIs(type(row), tuple)

    def test_limits(self):
        for limit in [1, 2, 23, 24]:
            desk = Desk(limit=limit)
            for at in range(limit):
                self.assertEqual(desk.ask("put n" + "abcdefghijklmnopqrstuvwxyz"[at] + " 1"), "done")
            self.assertEqual(desk.ask("put z 1"), "refused full")
        desk = Desk()
        for letter in "abcdefghijklmnopqrstuvwx":
            self.assertEqual(desk.ask(f"put {letter} {letter}"), "done")
        self.assertEqual(desk.ask("put y 1"), "refused full")

    def test_two_desks_go_their_own_ways(self):
        one, other = Desk(), Desk()
        one.ask("put a 1")
        self.assertEqual((one.ask("names"), other.ask("names"), len(one), len(other)), ("a", "nothing", 2, 1))

    def test_great_numbers_are_written(self):
        great = str(GREAT + 1)
        self.all((f"put a (raised 12 {great})", "done"), ("put b (raised 2 (raised 2 a))", "done"))
        text = self.desk.ask("tell b")
        self.assertEqual(len(text), 48 * 200 + 1)
        self.assertEqual((text[:3], text[-1]), ("100", "1"))

    def test_against_the_sheet(self):
        source = seeded("desk")
        for turn in range(20):
            desk, sheet = Desk(limit=4), Sheet(limit=4)
            for step in range(60):
                row = self.some_row(source)
                answer = desk.ask(row)
                self.assertEqual(answer, self.slow_answer(sheet, row), row)

    def some_row(self, source):
        """A row that may well be refused."""
        word = source.choice(["put"] * 6 + ["strike", "back", "again", "tell", "tree", "near", "side", "between", "names",
                                            "order", "uses", "users", "holds"])
        name, other = source.choice("abcdeA"), source.choice("abcde")
        if word == "put":
            tree = source.choice(["1", "-3/2", "(root 1 x^2-2)", "(nth 2 3)", f"(plus {other} 1)", f"(times {other} {other})",
                                  f"(over 1 {other})", f"(nth 2 {other})", "(root 5 x^2-2)", "(plus 1", f"(minus {other} a)"])
            return f"put {name} {tree}"
        if word == "near":
            return f"near {name} {source.choice(['1', '10', '12345', '0'])}"
        if word in ("side", "between"):
            return f"{word} {name} {other}"
        if word == "holds":
            return f"holds {name} {source.choice(['(side < x)', '(side = x^2-2)', '(not (side < x-1))', '(side'])}"
        return word if word in ("back", "again", "names", "order") else f"{word} {name}"

    def slow_answer(self, sheet, row):
        """By what is told elsewhere, with the words of the refusals in a table."""
        try:
            return self.plain_answer(sheet, row)
        except RootError as error:
            words = {"NoText": "text", "NoReal": "real", "NoDivision": "division", "NothingBetween": "between",
                     "NothingLeft": "none", "Full": "full", "NothingDone": "done", "NoPoly": "nought"}
            kind = type(error).__name__
            if kind in words:
                return "refused " + words[kind]
            field = {"NoName": "name", "NoRoot": "many", "TooGreat": "degree", "Ring": "ring"}[kind]
            told = getattr(error, field)
            word = {"NoName": "name", "NoRoot": "root", "TooGreat": "degree", "Ring": "ring"}[kind]
            return f"refused {word} {' '.join(told) if kind == 'Ring' else told}"

    def plain_answer(self, sheet, row):
        word, *rest = row.split(" ")
        behind = " ".join(rest[1:])
        if word == "put":
            sheet.put(*[rest[0], read_tree(behind)])
        elif word in ("strike", "back", "again"):
            getattr(sheet, word)(*rest)
        elif word in ("names", "order", "uses", "users"):
            return " ".join(getattr(sheet, word)(*rest)) or "nothing"
        elif word == "tell":
            return str(sheet.value(rest[0]))
        elif word == "tree":
            return write_tree(sheet.tree(rest[0]))
        elif word == "near":
            return TEXT if behind == "0" else str(number(*sheet.value(rest[0]).near(bottom=int(behind))))
        elif word == "side":
            return {-1: "less", 0: "same", 1: "more"}[sheet.value(rest[0]).side(sheet.value(rest[1]))]
        elif word == "between":
            return str(number(*between(sheet.value(rest[0]), sheet.value(rest[1]))))
        else:
            formula = read_formula(behind)
            return "yes" if region(formula).holds(sheet.value(rest[0])) else "no"
        return "done"

    def test_texts_of_pieces_and_roots(self):
        for formula in ["(side < x^3-3x+1)", "(some (side = x) (side > x^2-2))", "(not (all))"]:
            due = write_pieces(region(read_formula(formula)).pieces())
            self.ask("where " + formula, due)
        for poly in ["x^3-3x+1", "x^12-1", "-4x^5+x"]:
            self.ask("roots " + poly, ", ".join([str(real) for real in roots(read_poly(poly))]))


if __name__ == "__main__":
    unittest.main()
