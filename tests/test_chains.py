"""[8] and [9], and [2] and [5] where they touch chains."""

import copy
import unittest
from fractions import Fraction

from things import GREAT, NO_POLYS, NO_RATIOS, from_roots, pair_of, seeded, slow_chain, slow_product, slow_value
from things import some_poly

from trueroots.chains import chain, chain_holds, many_roots, sides, taken
from trueroots.errors import NoPoly, NoRatio

HALF = Fraction(1, 2)
# Polynomials without real roots.
ROOTLESS = [(1,), (-3,), (1, 0, 1), (-5, 0, -5), (1, 1, 1), (7, 0, 0, 0, 2), (2, -2, 1)]


def refused(test, error, ask, *handed, **named):
    """The asking is refused with just that error, and what was handed in is as it was."""
    before = copy.deepcopy((handed, named))
    with test.assertRaises(error) as caught:
        ask(*handed, **named)
    test.assertIs(type(caught.exception), error)
    test.assertEqual((handed, named), before)


class Chain(unittest.TestCase):
    def test_by_hand(self):
        self.assertEqual(chain((-2, 0, 1)), [(-2, 0, 1), (0, 1), (1,)])
        self.assertEqual(chain((1, 0, 1)), [(1, 0, 1), (0, 1), (-1,)])
        self.assertEqual(chain((-1, -3, 0, 1)), [(-1, -3, 0, 1), (-1, 0, 1), (1, 2), (1,)])
        self.assertEqual(chain((-1, 0, 0, 1)), [(-1, 0, 0, 1), (0, 0, 1), (1,)])
        self.assertEqual(chain((1, 0, 0, 0, 1)), [(1, 0, 0, 0, 1), (0, 0, 0, 1), (-1,)])

    def test_lines(self):
        self.assertEqual(chain((0, 1)), [(0, 1), (1,)])
        self.assertEqual(chain((6, -4)), [(-3, 2), (1,)])
        self.assertEqual(chain((-5, -5)), [(1, 1), (1,)])

    def test_numbers_alone(self):
        for number in [1, -1, 2, -7, GREAT, -GREAT]:
            self.assertEqual(chain((number,)), [(1,)])

    def test_the_first_is_plain_with_each_root_once(self):
        single = (-2, 0, 1)
        for scale in [1, -1, 6, -10]:
            for many in [1, 2, 3]:
                poly = slow_product((scale,), *([single] * many), from_roots(3), from_roots(HALF, HALF))
                self.assertEqual(chain(poly)[0], slow_product(single, from_roots(3, HALF)))
        # Roots that are not real are there once, too.
        self.assertEqual(chain(slow_product((1, 0, 1), (1, 0, 1), (0, 1)))[0], (0, 1, 0, 1))

    def test_the_second_is_the_derivative_without_its_divisor(self):
        self.assertEqual(chain((5, 3, 3))[1], (1, 2))
        self.assertEqual(chain((1, 6, 0, 0, 3))[1], (1, 0, 0, 2))
        self.assertEqual(chain((1, -6, 0, 0, 3))[1], (-1, 0, 0, 2))
        # Of the opposite the first is plain, and so the second comes of that one.
        self.assertEqual(chain((-1, 6, 0, 0, -3))[1], (-1, 0, 0, 2))

    def test_against_the_slow_way(self):
        source = seeded("chain")
        for turn in range(300):
            poly = some_poly(source, source.randint(0, 12), source.choice([1, 2, 5, 100]))
            self.assertEqual(chain(poly), slow_chain(poly), poly)

    def test_against_the_slow_way_with_roots_that_come_more_than_once(self):
        source = seeded("twice")
        for turn in range(150):
            part = some_poly(source, source.randint(1, 3), 4)
            other = some_poly(source, source.randint(0, 3), 4)
            poly = slow_product(part, part, other, other)
            self.assertEqual(chain(poly), slow_chain(poly), poly)

    def test_rows_that_pass_over_degrees(self):
        # Divisors whose last coefficient is below 0, with one and with two places between.
        source = seeded("gaps")
        for turn in range(300):
            poly = [0] * 13
            for at in source.sample(range(12), 3):
                poly[at] = source.randint(-3, 3)
            poly[12] = source.choice([-2, -1, 1, 2])
            top = source.randint(3, 12)
            poly = tuple(poly[:top] + [poly[12]])
            self.assertEqual(chain(poly), slow_chain(poly), poly)

    def test_degree_12_and_200_figures(self):
        source = seeded("great chain")
        for poly in [some_poly(source, 12, GREAT), (GREAT,) * 12 + (-GREAT,), (-GREAT, 1) + (0,) * 10 + (GREAT - 1,)]:
            rows = chain(poly)
            self.assertEqual(rows, slow_chain(poly))
            for row in rows:
                self.assertIs(type(row), tuple)

    def test_whatever_was_told_may_be_handed_in(self):
        rows = chain(some_poly(seeded("again"), 12, GREAT))
        self.assertEqual(chain(rows[6]), slow_chain(rows[6]))

    def test_a_new_list_each_time(self):
        poly = (-1, -3, 0, 1)
        rows = chain(poly)
        self.assertIs(type(rows), list)
        rows.append((9,))
        rows[0] = ()
        self.assertEqual(chain(poly), [(-1, -3, 0, 1), (-1, 0, 1), (1, 2), (1,)])
        self.assertIsNot(chain(poly), chain(poly))

    def test_refusals(self):
        for thing in NO_POLYS + [()]:
            refused(self, NoPoly, chain, thing)


class ManyRoots(unittest.TestCase):
    def between(self, roots, low, high):
        return len([root for root in set(roots) if (low is None or root > low) and (high is None or root <= high)])

    def asked(self, poly, low, high):
        return many_roots(poly, low=None if low is None else pair_of(low), high=None if high is None else pair_of(high))

    def test_no_ends(self):
        self.assertEqual(many_roots((-2, 0, 1)), 2)
        self.assertEqual(many_roots((-2, 0, 1), low=None), 2)
        self.assertEqual(many_roots((-2, 0, 1), high=None), 2)
        self.assertEqual(many_roots((-2, 0, 1), high=None, low=None), 2)
        self.assertEqual(many_roots((-2, 0, 0, 1)), 1)
        self.assertEqual(many_roots((0, 1)), 1)
        for poly in ROOTLESS:
            self.assertEqual(many_roots(poly), 0)
            self.assertEqual(many_roots(poly, low=(-5, 1), high=(5, 1)), 0)

    def test_ends_at_roots_and_close_by(self):
        roots = [Fraction(-7, 3), Fraction(-1), Fraction(0), HALF, Fraction(2), Fraction(2), Fraction(100)]
        poly = slow_product((-3,), from_roots(*roots), (1, 0, 1))
        tiny = Fraction(1, 10 ** 50)
        ends = [None, Fraction(-1000), Fraction(1000), Fraction(1, 3), Fraction(50)]
        for root in set(roots):
            ends.extend([root, root - tiny, root + tiny])
        for low in ends:
            for high in ends:
                due = self.between(roots, low, high)
                if low is not None and high is not None and low >= high:
                    due = 0
                self.assertEqual(self.asked(poly, low, high), due, (low, high))

    def test_one_end_left_out(self):
        poly = from_roots(-1, 0, 1)
        self.assertEqual(many_roots(poly, low=(0, 1)), 1)
        self.assertEqual(many_roots(poly, high=(0, 1)), 2)
        self.assertEqual(many_roots(poly, high=(0, 1), low=(-1, 1)), 1)
        self.assertEqual(many_roots(poly, low=(-1, 1), high=(0, 1)), 1)
        self.assertEqual(many_roots(poly, low=(1, 1)), 0)
        self.assertEqual(many_roots(poly, high=(-1, 1)), 1)

    def test_low_not_less_than_high(self):
        poly = from_roots(-1, 0, 1)
        for low, high in [((0, 1), (0, 1)), ((1, 1), (-1, 1)), ((5, 1), (-5, 1)), ((1, 2), (1, 3)), ((1, 1), (1, 1))]:
            self.assertEqual(many_roots(poly, low=low, high=high), 0)

    def test_roots_that_come_more_than_once(self):
        for many in [1, 2, 3, 6]:
            poly = slow_product(*([(-2, 0, 1)] * many))
            self.assertEqual(many_roots(poly), 2)
            self.assertEqual(many_roots(poly, low=(0, 1)), 1)
            self.assertEqual(many_roots(from_roots(*([3] * many)), low=(2, 1), high=(3, 1)), 1)
            self.assertEqual(many_roots(from_roots(*([3] * many)), low=(3, 1), high=(4, 1)), 0)

    def test_roots_that_are_no_fractions(self):
        # The square roots of 2, close by and far off.
        ends = [Fraction(top, 10 ** 9) for top in [1414213562, 1414213563, 1414213564]]
        self.assertEqual(self.asked((-2, 0, 1), ends[0], ends[1]), 1)
        self.assertEqual(self.asked((-2, 0, 1), ends[1], ends[2]), 0)
        self.assertEqual(many_roots((-2, 0, 1), low=(-GREAT, 1), high=(GREAT, 1)), 2)
        self.assertEqual(many_roots((-2, 0, 1), low=(GREAT, 1)), 0)

    def test_random_roots(self):
        source = seeded("many roots")
        for turn in range(100):
            roots = [Fraction(source.randint(-6, 6), source.randint(1, 3)) for at in range(source.randint(0, 8))]
            poly = slow_product((source.choice([-2, 1]),), from_roots(*roots), source.choice(ROOTLESS))
            for ask in range(10):
                low, high = [source.choice([None, Fraction(source.randint(-12, 12), 2)]) for end in range(2)]
                due = self.between(roots, low, high)
                self.assertEqual(self.asked(poly, low, high), due, (poly, low, high))

    def test_degree_12_and_200_figures(self):
        roots = [Fraction(GREAT // 10 ** 190 + at, 10 ** 6) for at in range(12)]
        poly = from_roots(*roots)
        self.assertEqual(many_roots(poly), 12)
        self.assertEqual(many_roots(poly, low=pair_of(roots[3]), high=pair_of(roots[7])), 4)
        poly = (-1,) + (0,) * 11 + (GREAT,)
        self.assertEqual(many_roots(poly), 2)
        self.assertEqual(many_roots(poly, low=(1, GREAT), high=(1, 10 ** 17)), 0)
        self.assertEqual(many_roots(poly, low=(1, GREAT), high=(GREAT - 1, GREAT)), 1)
        self.assertEqual(many_roots((-GREAT, 1), low=(GREAT - 1, 1), high=(GREAT, 1)), 1)

    def test_what_is_no_fraction(self):
        for thing in NO_RATIOS:
            if thing is not None:
                refused(self, NoRatio, many_roots, (-2, 0, 1), low=thing)
                refused(self, NoRatio, many_roots, (-2, 0, 1), high=thing)
                refused(self, NoRatio, many_roots, (5,), low=thing, high=thing)
                refused(self, NoRatio, many_roots, (-2, 0, 1), low=(1, 1), high=thing)
                refused(self, NoRatio, many_roots, (-2, 0, 1), low=thing, high=(1, 1))

    def test_what_is_no_polynomial_goes_first(self):
        for thing in NO_POLYS + [()]:
            refused(self, NoPoly, many_roots, thing)
            for bad in [(1, 1), (2, 4), "x", [], 0, True]:
                refused(self, NoPoly, many_roots, thing, low=bad)
                refused(self, NoPoly, many_roots, thing, high=bad)
                refused(self, NoPoly, many_roots, thing, low=bad, high=bad)


class ChainHolds(unittest.TestCase):
    POLYS = [(3,), (-2, 0, 1), (5, -3), (-1, -3, 0, 1), (1, 0, 1), (0, 0, 4, -4), (1, 2, 3, 4, 5, -6), (-1,) * 13,
             slow_product((1, 1), (1, 1), (-2, 0, 1), (-2,))]

    def test_the_chain(self):
        for poly in self.POLYS:
            self.assertIs(chain_holds(poly, chain(poly)), True)
            # Its multiples and powers have the same roots.
            self.assertIs(chain_holds(slow_product((-6,), poly), chain(poly)), True)

    def test_each_row_times_its_own_number(self):
        source = seeded("own numbers")
        for poly in self.POLYS:
            rows = [slow_product((source.choice([1, 2, 3, 10, GREAT]),), row) for row in chain(poly)]
            self.assertIs(chain_holds(poly, rows), True)
            for at in range(len(rows)):
                single = chain(poly)
                single[at] = rows[at]
                self.assertIs(chain_holds(poly, single), True)

    def test_by_hand(self):
        self.assertIs(chain_holds((-4, 0, 2), [(-2, 0, 1), (0, 1), (1,)]), True)
        self.assertIs(chain_holds((-4, 0, 2), [(-4, 0, 2), (0, 4), (4,)]), True)
        self.assertIs(chain_holds((4, 0, -2), [(-4, 0, 2), (0, 1), (2,)]), True)

    def test_one_number_changed(self):
        for poly in self.POLYS:
            rows = chain(poly)
            for at, row in enumerate(rows):
                if len(row) == 1:
                    continue
                for by in range(len(row)):
                    for change in [-1, 1]:
                        other = list(row)
                        other[by] += change
                        if other[-1] != 0 and not self.multiple(other, row):
                            self.assertIs(chain_holds(poly, rows[:at] + [tuple(other)] + rows[at + 1:]), False)

    def multiple(self, one, other):
        """Whether one is the other times a fraction above 0."""
        scale = Fraction(one[-1], other[-1])
        return scale > 0 and [scale * part for part in other] == list(one)

    def test_a_row_turned(self):
        for poly in self.POLYS:
            rows = chain(poly)
            for at, row in enumerate(rows):
                turned = tuple([-part for part in row])
                self.assertIs(chain_holds(poly, rows[:at] + [turned] + rows[at + 1:]), False)
                self.assertIs(chain_holds(poly, [tuple([-part for part in each]) for each in rows]), False)

    def test_rows_left_out_put_twice_exchanged_or_put_in(self):
        for poly in self.POLYS:
            rows = chain(poly)
            for at, row in enumerate(rows):
                self.assertIs(chain_holds(poly, rows[:at] + rows[at + 1:]), False)
                self.assertIs(chain_holds(poly, rows[:at] + [row] + rows[at:]), False)
                self.assertIs(chain_holds(poly, rows[:at] + [()] + rows[at + 1:]), False)
                for extra in [(), (1,), (-1,), (0, 1), (1, 2, 3)]:
                    self.assertIs(chain_holds(poly, rows[:at] + [extra] + rows[at:]), False)
                for by in range(at):
                    changed = list(rows)
                    changed[at], changed[by] = changed[by], changed[at]
                    self.assertIs(chain_holds(poly, changed), False)
            for extra in [(), (1,), (-1,), (0, 1)]:
                self.assertIs(chain_holds(poly, rows + [extra]), False)
            self.assertIs(chain_holds(poly, []), False)
            self.assertIs(chain_holds(poly, [()]), False)
            self.assertIs(chain_holds(poly, [()] * 40), False)

    def test_the_chain_of_another_one(self):
        self.assertIs(chain_holds((-2, 0, 1), chain((-3, 0, 1))), False)
        # The first row has each root once.
        self.assertIs(chain_holds((1, 2, 1), [(1, 2, 1), (1, 1)]), False)
        self.assertIs(chain_holds((1, 2, 1), [(1, 1), (1,)]), True)

    def test_refusals(self):
        for thing in NO_POLYS:
            for rows in [[], [(1,)], chain((-2, 0, 1)), [thing], [None]]:
                refused(self, NoPoly, chain_holds, thing, rows)
                refused(self, NoPoly, chain_holds, (), rows)
            good = chain((-2, 0, 1))
            for at in range(len(good) + 1):
                refused(self, NoPoly, chain_holds, (-2, 0, 1), good[:at] + [thing] + good[at:])
            refused(self, NoPoly, chain_holds, (-2, 0, 1), [thing])
            # What else is in the list does not matter: a list that is not the chain is refused as well.
            refused(self, NoPoly, chain_holds, (-2, 0, 1), [(), (5,), thing, (1, 1)])
            refused(self, NoPoly, chain_holds, (-2, 0, 1), [()] * 39 + [thing])

    def test_what_is_no_list(self):
        for rows in [None, True, 0, 5, "", "x"]:
            refused(self, NoPoly, chain_holds, (-2, 0, 1), rows)

    def test_nothing_is_changed(self):
        for rows in [chain((-2, 0, 1)), [(4, 8)], [(), (2,)]]:
            before = copy.deepcopy(rows)
            chain_holds((-2, 0, 1), rows)
            self.assertEqual(rows, before)


class Sides(unittest.TestCase):
    def holds(self, poly, other, due):
        self.assertEqual(sides(poly, other), due, (poly, other))
        self.assertIs(type(sides(poly, other)), tuple)
        self.assertEqual(taken(poly, other), due[2] - due[0], (poly, other))

    def test_by_hand(self):
        self.holds((-2, 0, 1), (0, 1), (1, 0, 1))
        self.holds((-2, 0, 1), (-1, 1), (1, 0, 1))
        self.holds((-2, 0, 1), (-5, 1), (2, 0, 0))
        self.holds((-2, 0, 1), (5, 1), (0, 0, 2))
        self.holds((-2, 0, 1), (-2, 0, 1), (0, 2, 0))
        self.holds((-2, 0, 1), (2, 0, -1), (0, 2, 0))
        self.holds((-2, 0, 0, 1), (-1, 1), (0, 0, 1))
        self.holds((-2, 0, 0, 1), (1, -1), (1, 0, 0))

    def test_known_roots(self):
        source = seeded("sides")
        for turn in range(300):
            roots = [Fraction(source.randint(-5, 5), source.randint(1, 3)) for at in range(source.randint(0, 7))]
            poly = slow_product((source.choice([-3, -1, 1, 2]),), from_roots(*roots), source.choice(ROOTLESS))
            other = some_poly(source, source.randint(0, 4), 6)
            for root in source.sample(roots, min(len(roots), source.randint(0, 2))):
                other = slow_product(other, from_roots(root))
            values = [slow_value(other, root) for root in set(roots)]
            below = len([1 for value in values if value < 0])
            self.holds(poly, other, (below, values.count(0), len(values) - below - values.count(0)))

    def test_numbers_alone_and_nought_as_the_second(self):
        for poly, many in [((-2, 0, 1), 2), (from_roots(1, 1, 2, HALF), 3), ((1, 0, 1), 0), ((7,), 0), ((-7,), 0)]:
            self.holds(poly, (3,), (0, 0, many))
            self.holds(poly, (-3,), (many, 0, 0))
            self.holds(poly, (), (0, many, 0))

    def test_first_ones_without_real_roots(self):
        for poly in ROOTLESS:
            for other in [(), (1,), (-1,), (0, 1), (-2, 0, 1), poly, (1,) * 13]:
                self.holds(poly, other, (0, 0, 0))

    def test_roots_that_come_more_than_once(self):
        for many in [1, 2, 3, 4]:
            poly = slow_product(*([(-2, 0, 1)] * many), from_roots(5))
            self.holds(poly, (-1, 1), (1, 0, 2))
            self.holds(poly, (-5, 1), (2, 1, 0))
            self.holds(poly, from_roots(5, 5), (0, 1, 2))
            self.holds((-2, 0, 1), slow_product(*([(-1, 1)] * many)), (many % 2, 0, 2 - many % 2))

    def test_a_second_one_with_parts_in_common(self):
        common = (-2, 0, 0, 1)
        self.holds(slow_product(common, (-3, 0, 1)), slow_product(common, (0, 1)), (0, 1, 2))
        self.holds(slow_product(common, common, (-3, 0, 1)), slow_product(common, (0, -1)), (2, 1, 0))
        self.holds(common, slow_product(common, common), (0, 1, 0))
        self.holds(slow_product(common, (1, 0, 1)), slow_product((1, 0, 1), (-1, 1)), (0, 0, 1))

    def test_a_second_one_that_is_longer(self):
        self.holds((0, 1), (-1,) + (1,) * 12, (1, 0, 0))
        self.holds((0, -2), (0,) * 12 + (1,), (0, 1, 0))
        self.holds((-1, 1), (-1,) * 12 + (11,), (1, 0, 0))
        self.holds((-1, 1), (-1,) * 12 + (13,), (0, 0, 1))
        self.holds((-1, 0, -1, 0, 2), (0,) * 11 + (-1,), (1, 0, 1))

    def test_degree_12_and_200_figures(self):
        roots = [Fraction(at, GREAT // 10 ** 185) for at in range(-6, 6)]
        poly = from_roots(*roots)
        self.holds(poly, (-GREAT,) + (0,) * 11 + (GREAT,), (12, 0, 0))
        self.holds(poly, (-1,) + (0,) * 11 + (GREAT,), (1, 0, 11))
        self.holds(poly, (0, GREAT), (6, 1, 5))
        self.holds(poly, (-1, GREAT // 10 ** 185), (7, 1, 4))
        source = seeded("great sides")
        one, other = some_poly(source, 12, GREAT), some_poly(source, 12, GREAT)
        self.assertEqual(sum(sides(one, other)), many_roots(one))
        self.assertEqual(sides(one, other)[::-1], sides(one, tuple([-part for part in other])))
        # At the roots of the one the second is above 0 just where the root lies above the one root of a line.
        at = (1, 3)
        self.assertEqual(sides(one, (-1, 3))[2], many_roots(one, low=at))

    def test_refusals(self):
        for thing in NO_POLYS:
            for ask in [sides, taken]:
                refused(self, NoPoly, ask, thing, (1, 1))
                refused(self, NoPoly, ask, thing, ())
                refused(self, NoPoly, ask, (1, 1), thing)
                refused(self, NoPoly, ask, (7,), thing)
                refused(self, NoPoly, ask, (), thing)
                refused(self, NoPoly, ask, thing, thing)
        for other in [(), (1,), (1, 1)]:
            refused(self, NoPoly, sides, (), other)
            refused(self, NoPoly, taken, (), other)


if __name__ == "__main__":
    unittest.main()
