"""Reckoning with fractions, against Python's own."""

import math
import unittest
from fractions import Fraction

from helper import chance_of, some_fraction
from signsteps.fractions import (added, bottom_parts, common_divisor, is_fraction, is_whole, lowest, multiplied,
                                 product_of)

SMALL = [(top, bottom) for top in range(-12, 13) for bottom in range(1, 13) if math.gcd(top, bottom) == 1]


def pair(fraction):
    return (fraction.numerator, fraction.denominator)


class FractionsTest(unittest.TestCase):
    def test_whole_numbers(self):
        for number in (0, 1, -1, 10 ** 110):
            self.assertIs(is_whole(number), True)
        for thing in (True, False, "1", (1,), None):
            self.assertIs(is_whole(thing), False)

    def test_common_divisor(self):
        for one in range(-30, 31):
            for other in range(-30, 31):
                self.assertEqual(abs(common_divisor(one, other)), math.gcd(one, other))
                if other > 0:
                    self.assertGreater(common_divisor(one, other), 0)

    def test_is_fraction(self):
        for top in range(-12, 13):
            for bottom in range(-12, 13):
                awaited = bottom > 0 and math.gcd(top, bottom) == 1
                self.assertIs(is_fraction((top, bottom)), awaited)
        for thing in ((), (1,), (1, 1, 1), 1, [1, 1], (True, 1), (1, True)):
            self.assertIs(is_fraction(thing), False)

    def test_added_and_multiplied(self):
        chance = chance_of("fractions")
        long = [some_fraction(chance, 110) for _ in range(30)]
        for rows in (SMALL, long):
            for one in rows:
                for other in rows:
                    first, second = Fraction(*one), Fraction(*other)
                    self.assertEqual(added(one, other), pair(first + second))
                    self.assertEqual(multiplied(one, other), pair(first * second))

    def test_lowest(self):
        chance = chance_of("lowest")
        for _ in range(500):
            parts = [chance.randrange(1, 60) for _ in range(chance.randint(0, 4))]
            top = chance.randrange(-2000, 2000)
            self.assertEqual(lowest(top, parts), pair(Fraction(top, math.prod(parts))))

    def test_bottom_parts(self):
        chance = chance_of("bottoms")
        for _ in range(300):
            rows = [some_fraction(chance, 3) for _ in range(chance.randint(0, 6))]
            parts = bottom_parts(rows)
            self.assertEqual(product_of(parts), math.lcm(*[bottom for top, bottom in rows]))
            self.assertTrue(all(part > 1 for part in parts))


if __name__ == "__main__":
    unittest.main()
