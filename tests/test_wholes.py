"""The greatest divisor of whole numbers of all lengths: all else stands on it."""

import unittest
from math import gcd

from things import GREAT, seeded

from trueroots.wholes import MANY_BITS, brought_down, greatest_divisor


class GreatestDivisor(unittest.TestCase):
    def test_small(self):
        for one in range(-30, 31):
            for other in range(-30, 31):
                self.assertEqual(greatest_divisor(one, other), gcd(one, other))

    def test_all_lengths(self):
        source = seeded("divisors")
        for bits in [100, 1000, MANY_BITS - 1, MANY_BITS, MANY_BITS + 1, 5000, 12000, 40000]:
            for turn in range(6):
                shared = source.getrandbits(source.choice([1, 20, bits // 3, bits]))
                one, other = shared * source.getrandbits(bits), shared * source.getrandbits(source.choice([bits, 4500]))
                for left, right in [(one, other), (other, one), (-one, other), (one, -other), (one, one), (one, 0)]:
                    self.assertEqual(greatest_divisor(left, right), gcd(left, right))

    def test_of_unlike_lengths(self):
        for one, other in [(10 ** 9000, GREAT), (GREAT, 10 ** 9000), (2 ** 30000, 3 ** 9000), (6 ** 9000, 4 ** 15000),
                           (10 ** 9000 + 1, 10 ** 8000), (2 ** 20000 - 1, 2 ** 15000 - 1), (2 ** 20000, 2 ** 20000 - 1)]:
            self.assertEqual(greatest_divisor(one, other), gcd(one, other))

    def test_what_is_brought_down(self):
        one, other = 7 ** 5000, 21 ** 3000
        high, low = brought_down(max(one, other), min(one, other))
        self.assertEqual(gcd(high, low), gcd(one, other))
        self.assertLessEqual(low.bit_length(), max(MANY_BITS, gcd(one, other).bit_length()))


if __name__ == "__main__":
    unittest.main()
