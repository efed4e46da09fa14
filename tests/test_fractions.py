"""Reckoning with fractions, against Python's own."""

import math
import unittest
from fractions import Fraction

from helper import chance_of, pair, some_fraction
from signsteps.fractions import (LONG_BITS, added, all_lowest, are_lowest, bottom_parts, common_divisor, content_of,
                                 is_fraction, is_pair, is_whole, least_multiple, lowest, multiplied, product_of,
                                 turned_over)

SMALL = [(top, bottom) for top in range(-12, 13) for bottom in range(1, 13) if math.gcd(top, bottom) == 1]


def long_number(chance, bits):
    return chance.randrange(2 ** (bits - 1), 2 ** bits)


class FractionsTest(unittest.TestCase):
    def test_whole_numbers(self):
        for number in (0, 1, -1, 10 ** 110):
            self.assertIs(is_whole(number), True)
        for thing in (True, False, "1", (1,), None):
            self.assertIs(is_whole(thing), False)

    def test_common_divisor(self):
        for one in range(-30, 31):
            for other in range(-30, 31):
                self.assertEqual(abs(common_divisor(one, other)), math.gcd(one, other))
                if other > 0:
                    self.assertGreater(common_divisor(one, other), 0)

    def test_is_pair(self):
        for top in range(-12, 13):
            for bottom in range(-12, 13):
                self.assertIs(is_pair((top, bottom)), bottom > 0)
                self.assertIs(is_fraction((top, bottom)), bottom > 0 and math.gcd(top, bottom) == 1)
                if bottom > 0:
                    self.assertIs(are_lowest([(1, 2), (top, bottom)]), math.gcd(top, bottom) == 1)
        for thing in ((), (1,), (1, 1, 1), 1, [1, 1], (True, 1), (1, True)):
            self.assertIs(is_pair(thing), False)
            self.assertIs(is_fraction(thing), False)

    def test_added_and_multiplied(self):
        chance = chance_of("fractions")
        long = [some_fraction(chance, 110) for _ in range(30)]
        for rows in (SMALL, long):
            for one in rows:
                for other in rows:
                    first, second = Fraction(*one), Fraction(*other)
                    self.assertEqual(added(one, other), pair(first + second))
                    self.assertEqual(multiplied(one, other), pair(first * second))

    def test_lowest(self):
        chance = chance_of("lowest")
        for _ in range(500):
            parts = [chance.randrange(1, 60) for _ in range(chance.randint(0, 4))]
            top = chance.randrange(-2000, 2000)
            self.assertEqual(lowest(top, parts), pair(Fraction(top, math.prod(parts))))

    def test_all_lowest(self):
        chance = chance_of("all lowest")
        for longest in (60, 10 ** 40):
            for _ in range(200):
                parts = [chance.randrange(1, longest) for _ in range(chance.randint(0, 4))]
                tops = [chance.randrange(-2000, 2000) * chance.choice([0, 1, 1, *parts])
                        for _ in range(chance.randint(0, 6))]
                awaited = [pair(Fraction(top, math.prod(parts))) for top in tops]
                self.assertEqual(all_lowest(tops, parts), awaited)

    def test_long_common_divisors(self):
        chance = chance_of("long divisors")
        for bits in (LONG_BITS - 1, LONG_BITS, LONG_BITS + 1, LONG_BITS + 70, 2 * LONG_BITS, 5 * LONG_BITS):
            one, other = long_number(chance, bits), long_number(chance, bits)
            for shared in (1, 6, long_number(chance, 300), long_number(chance, 3 * LONG_BITS)):
                for more in (1, 2, long_number(chance, 2500)):
                    first, second = one * shared * more, other * shared
                    for top, bottom in ((first, second), (second, first), (-first, second), (first, 3 * first)):
                        self.assertEqual(common_divisor(top, bottom), math.gcd(top, bottom))
            self.assertEqual(common_divisor(one, one), one)
            self.assertEqual(common_divisor(one + 1, one), 1)
            self.assertEqual(common_divisor(0, one), one)
            self.assertEqual(common_divisor(one, 0), one)

    def test_long_numbers_whose_quotients_are_all_one(self):
        one, other = 1, 1
        while one.bit_length() <= 3 * LONG_BITS:
            one, other = one + other, one
        self.assertEqual(common_divisor(one, other), 1)
        self.assertEqual(common_divisor(15 * one, 21 * other), math.gcd(15 * one, 21 * other))
        self.assertEqual(common_divisor(2 ** 9000, 2 ** 7000 * 3), 2 ** 7000)
        self.assertEqual(common_divisor(2 ** 9000 - 1, 2 ** 6000 - 1), 2 ** 3000 - 1)

    def test_long_pairs_in_lowest_terms(self):
        chance = chance_of("long pairs")
        for related in (True, False):
            bottom = long_number(chance, 3000)
            fractions = []
            for by in range(2, 12):
                under = bottom * by if related else long_number(chance, 3000)
                fractions.append(pair(Fraction(long_number(chance, 3000), under)))
            self.assertIs(are_lowest(fractions), True)
            for place, (top, under) in enumerate(fractions):
                for by in (3, 10007, long_number(chance, 2500)):
                    spoilt = [*fractions[:place], (top * by, under * by), *fractions[place + 1:]]
                    self.assertIs(are_lowest(spoilt), False)
        self.assertIs(are_lowest([]), True)

    def test_content(self):
        for numbers, awaited in (([], 0), ([0], 0), ([0, 0], 0), ([-4], 4), ([0, 6, -9], 3), ([6, 0, 4, 0], 2),
                                 ([-5, 7], 1)):
            self.assertEqual(content_of(numbers), awaited)

    def test_turned_over(self):
        for fraction in SMALL:
            if fraction[0] != 0:
                self.assertEqual(turned_over(fraction), pair(1 / Fraction(*fraction)))

    def test_least_multiple(self):
        chance = chance_of("multiple")
        self.assertEqual(least_multiple([]), 1)
        for _ in range(300):
            numbers = [chance.randrange(1, 10 ** chance.randint(1, 30)) for _ in range(chance.randint(1, 5))]
            self.assertEqual(least_multiple(numbers), math.lcm(*numbers))

    def test_bottom_parts(self):
        chance = chance_of("bottoms")
        for _ in range(300):
            rows = [some_fraction(chance, 3) for _ in range(chance.randint(0, 6))]
            parts = bottom_parts(rows)
            self.assertEqual(product_of(parts), math.lcm(*[bottom for top, bottom in rows]))
            self.assertTrue(all(part > 1 for part in parts))


if __name__ == "__main__":
    unittest.main()
