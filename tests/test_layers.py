"""[7]: layers and the resultant."""

import unittest
from fractions import Fraction

from things import GREAT, determinant, seeded, slow_common, slow_product, some_poly, square

from trueroots.polys import layers, plain, resultant

# Plain, of degree 1 or more, none with a root twice or a root of another one.
PARTS = [(0, 1), (-1, 1), (3, 2), (1, 0, 1), (-2, 0, 1), (1, 1, 1), (-2, 0, 0, 1), (5, -1, 0, 3), (1, 0, 0, 0, 7)]


def power(poly, many):
    return slow_product(*[poly] * many)


class Layers(unittest.TestCase):
    def test_known_ones(self):
        self.assertEqual(layers((0, 0, -3, 3)), [((-1, 1), 1), ((0, 1), 2)])
        self.assertEqual(layers((-2, 0, 1)), [((-2, 0, 1), 1)])
        self.assertEqual(layers((4, 0, -2)), [((-2, 0, 1), 1)])
        self.assertEqual(layers((0, 5)), [((0, 1), 1)])
        self.assertEqual(layers((1, 2)), [((1, 2), 1)])
        self.assertEqual(layers((0,) * 12 + (-7,)), [((0, 1), 12)])
        self.assertEqual(layers((1, 0, 2, 0, 1)), [((1, 0, 1), 2)])

    def test_a_number_alone(self):
        for number in [1, -1, 6, GREAT, -GREAT]:
            self.assertEqual(layers((number,)), [])

    def test_roots_that_are_there_equally_often_share_a_layer(self):
        whole = slow_product((-1, 1), (1, 1), power((2, 1), 3), power((-3, 0, 1), 3))
        self.assertEqual(layers(whole), [((-1, 0, 1), 1), (slow_product((2, 1), (-3, 0, 1)), 3)])

    def test_layers_that_are_not_there_are_left_out(self):
        whole = slow_product(power((0, 1), 2), power((-1, 1), 5), power((3, 2), 4))
        self.assertEqual(layers(whole), [((0, 1), 2), ((3, 2), 4), ((-1, 1), 5)])

    def test_any_product(self):
        source = seeded("layers")
        for turn in range(150):
            whole, due, left = (source.choice([1, -1, 6, -35, GREAT]),), {}, 12
            for part in source.sample(PARTS, 5):
                many = source.randint(0, 4)
                if many > 0 and (len(part) - 1) * many <= left:
                    left -= (len(part) - 1) * many
                    whole = slow_product(whole, power(part, many))
                    due[many] = slow_product(due.get(many, (1,)), part)
            told = layers(whole)
            self.assertEqual(told, [(due[many], many) for many in sorted(due)])
            self.assertEqual(power_product(told), plain(whole))

    def test_any_polynomial(self):
        source = seeded("any layers")
        for turn in range(100):
            poly = some_poly(source, source.randint(1, 6), 2)
            told = layers(poly)
            self.assertEqual(power_product(told), plain(poly))
            manys = [many for layer, many in told]
            self.assertEqual(manys, sorted(set(manys)))
            for at, (layer, many) in enumerate(told):
                self.assertEqual(layer, plain(layer))
                slope = tuple([by * number for by, number in enumerate(layer)][1:])
                self.assertEqual(slow_common(layer, slope), (1,))
                for other, many in told[at + 1:]:
                    self.assertEqual(slow_common(layer, other), (1,))

    def test_great_numbers(self):
        source = seeded("great layers")
        one, other = plain(some_poly(source, 3, GREAT)), plain(some_poly(source, 2, 10 ** 100))
        self.assertEqual(layers(slow_product((-GREAT,), one, power(other, 4))), [(one, 1), (other, 4)])
        whole = some_poly(source, 12, GREAT)
        self.assertEqual(layers(whole), [(plain(whole), 1)])

    def test_kinds(self):
        told = layers((0, 0, -3, 3))
        self.assertIs(type(told), list)
        self.assertEqual([type(row) for row in told], [tuple, tuple])
        self.assertEqual([type(row[0]) for row in told], [tuple, tuple])

    def test_each_list_is_a_new_one(self):
        for poly in [(0, 0, -3, 3), (5,)]:
            first, second = layers(poly), layers(poly)
            due = list(second)
            self.assertIsNot(first, second)
            first.append("x")
            self.assertEqual(second, due)
            self.assertEqual(layers(poly), due)


def power_product(rows):
    """The product of all layers, each so often."""
    return slow_product(*[power(layer, many) for layer, many in rows])


class Resultant(unittest.TestCase):
    def test_known_ones(self):
        self.assertEqual(resultant((-2, 0, 1), (-3, 0, 1)), 1)
        self.assertEqual(resultant((-2, 1), (-5, 1)), -3)
        self.assertEqual(resultant((-5, 1), (-2, 1)), 3)
        self.assertEqual(resultant((1, 2), (3, 4)), 2 * 3 - 4 * 1)
        self.assertEqual(resultant((-1, 0, 1), (1, 1)), 0)
        self.assertEqual(resultant((0, 1), (7, 5, 3)), 7)
        self.assertEqual(resultant((7, 5, 3), (0, 1)), 7)
        self.assertEqual(resultant((7, 5, 3, 1), (0, 1)), -7)

    def test_numbers_alone(self):
        self.assertEqual(resultant((5,), (7,)), 1)
        self.assertEqual(resultant((-5,), (-5,)), 1)
        self.assertEqual(resultant((5,), (1, 2, 3)), 25)
        self.assertEqual(resultant((1, 2, 3), (5,)), 25)
        self.assertEqual(resultant((-2,), (1, 2, 3, 4)), -8)
        self.assertEqual(resultant((1, 2, 3, 4), (-2,)), -8)
        self.assertEqual(resultant((GREAT,), (1,) * 13), 10 ** 2400)

    def test_with_nought(self):
        for other in [(), (1,), (-3,), (1, 2), (1,) * 13]:
            self.assertEqual(resultant((), other), 0)
            self.assertEqual(resultant(other, ()), 0)

    def test_the_sign_where_both_degrees_are_odd(self):
        source = seeded("sign")
        for m in range(5):
            for n in range(5):
                one, other = some_poly(source, m, 9), some_poly(source, n, 9)
                sign = -1 if m % 2 and n % 2 else 1
                self.assertEqual(resultant(one, other), sign * resultant(other, one))

    def test_against_the_determinant(self):
        source = seeded("determinant")
        for bound in [1, 2, 9, 10 ** 15]:
            for m in range(6):
                for n in range(6):
                    for turn in range(4):
                        one, other = some_poly(source, m, bound), some_poly(source, n, bound)
                        self.assertEqual(resultant(one, other), determinant(square(one, other)), (one, other))

    def test_against_the_determinant_with_gaps(self):
        source = seeded("gaps")
        for turn in range(150):
            one = sparse(source, source.randint(1, 9))
            other = sparse(source, source.randint(1, 9))
            self.assertEqual(resultant(one, other), determinant(square(one, other)), (one, other))

    def test_of_degree_12(self):
        source = seeded("twelve")
        for n in [11, 12]:
            one, other = some_poly(source, 12, GREAT), some_poly(source, n, GREAT)
            due = determinant_by_wholes(square(one, other))
            self.assertEqual(resultant(one, other), due)
            self.assertEqual(resultant(other, one), due)

    def test_by_roots(self):
        source = seeded("roots")
        for turn in range(50):
            tops = [source.randint(-9, 9) for each in range(source.randint(0, 5))]
            lead = source.choice([-3, 1, 4])
            one = slow_product((lead,), *[(-top, 1) for top in tops])
            other = some_poly(source, source.randint(0, 6), 9)
            due = Fraction(lead) ** (len(other) - 1)
            for top in tops:
                due *= sum([number * top ** at for at, number in enumerate(other)])
            self.assertEqual(resultant(one, other), due)

    def test_a_root_in_common(self):
        source = seeded("shared")
        for turn in range(30):
            shared = some_poly(source, source.randint(1, 4), 99)
            one = slow_product(shared, some_poly(source, source.randint(0, 8), 99))
            other = slow_product(shared, some_poly(source, source.randint(0, 8), 99))
            self.assertEqual(resultant(one, other), 0)

    def test_a_whole_number_is_told(self):
        for one, other in [((1, 2), (3, 4)), ((), (1,)), ((5,), (7,)), ((5,), (1, 2)), ((1, 2), (1, 2))]:
            self.assertIs(type(resultant(one, other)), int)


def sparse(source, degree):
    """A polynomial most of whose numbers are 0, so that degrees drop by more than 1."""
    numbers = [source.choice([0, 0, 0, 1, -2, 3]) for turn in range(degree)]
    return tuple(numbers + [source.choice([1, -1, 2, 5])])


def determinant_by_wholes(rows):
    """By Bareiss's way: as Gauss's, with no fraction, for great numbers."""
    rows = [list(row) for row in rows]
    sign, before = 1, 1
    for at in range(len(rows) - 1):
        found = [by for by in range(at, len(rows)) if rows[by][at] != 0]
        if not found:
            return 0
        if found[0] != at:
            rows[at], rows[found[0]] = rows[found[0]], rows[at]
            sign = -sign
        for low in range(at + 1, len(rows)):
            for by in range(at + 1, len(rows)):
                rows[low][by] = (rows[low][by] * rows[at][at] - rows[low][at] * rows[at][by]) // before
        before = rows[at][at]
    return sign * rows[-1][-1]


if __name__ == "__main__":
    unittest.main()
