"""times of point 7, and the first promise of point 4."""

import time
import unittest

from helper import (ALL_SQUARES, ONE, all_products, chance_of, full_sum, kinds, slow_times, some_fraction, some_sum,
                    step_sum)
from signsteps.kinds import Kind
from signsteps.sums import is_sum, minus, plus, scaled, times


class TimesTest(unittest.TestCase):
    def test_by_hand(self):
        kind = Kind([1, -1, 0])
        one = (((), (1, 2)), ((0,), (1, 1)))
        self.assertEqual(times(kind, one, one), (((), (5, 4)), ((0,), (1, 1))))
        self.assertEqual(times(kind, (((0,), (2, 3)),), (((1,), (3, 4)),)), (((0, 1), (1, 2)),))
        self.assertEqual(times(kind, (((1,), (2, 3)),), (((0,), (3, 4)),)), (((0, 1), (-1, 2)),))
        self.assertEqual(times(kind, (((0, 1), (1, 1)),), (((0, 1), (1, 1)),)), ONE)
        self.assertEqual(times(kind, (((0, 2), (1, 1)),), (((0, 2), (1, 1)),)), ())
        self.assertEqual(times(kind, (((0, 1), (1, 1)),), (((1, 2), (1, 1)),)), (((0, 2), (-1, 1)),))
        light = (((0,), (1, 1)), ((1,), (1, 1)))
        self.assertEqual(times(kind, light, light), ())

    def test_each_two_products_of_each_kind(self):
        for squares, kind in kinds(ALL_SQUARES[:121] + ALL_SQUARES[121::17]):
            for one in all_products(kind.count):
                for other in all_products(kind.count):
                    first, second = ((one, (1, 1)),), ((other, (-2, 3)),)
                    self.assertEqual(times(kind, first, second), slow_times(squares, first, second))

    def test_some_sums(self):
        chance = chance_of("times")
        for squares, kind in kinds():
            for figures in (1, 2, 40, 110):
                one = some_sum(chance, kind.count, figures, 0.3)
                other = some_sum(chance, kind.count, figures, 0.5)
                found = times(kind, one, other)
                self.assertEqual(found, slow_times(squares, one, other))
                self.assertIs(is_sum(kind, found), True)
                self.assertEqual(times(kind, one, other), found)

    def test_full_sums(self):
        chance = chance_of("full")
        for count in range(6):
            for squares in ([1] * count, [-1] * count, [0] * count, [1, -1, 0, 1, -1][:count]):
                one, other = full_sum(chance, count, 2), full_sum(chance, count, 2)
                self.assertEqual(len(one), 2 ** count)
                self.assertEqual(times(Kind(squares), one, other), slow_times(squares, one, other))

    def test_full_sums_of_long_fractions_are_told_soon(self):
        chance = chance_of("long")
        squares = [1, -1, -1, 1, -1]
        kind = Kind(squares)
        one, other, third = [full_sum(chance, 5, 110) for _ in range(3)]
        begun = time.process_time()
        found = times(kind, one, other)
        again = times(kind, found, third)
        self.assertLess(time.process_time() - begun, 20)
        self.assertEqual(found, slow_times(squares, one, other))
        self.assertEqual(again, times(kind, one, times(kind, other, third)))

    def test_terms_that_put_one_another_out(self):
        kind = Kind([1, 1])
        half, other_half = (((), (1, 2)), ((0,), (1, 2))), (((), (1, 2)), ((0,), (-1, 2)))
        self.assertEqual(times(kind, half, other_half), ())
        self.assertEqual(times(kind, half, half), half)
        self.assertEqual(plus(half, other_half), ONE)

    def test_the_same_sums_in_other_kinds_by_turns(self):
        chance = chance_of("by turns")
        one, other = full_sum(chance, 3, 2), full_sum(chance, 3, 2)
        for _ in range(2):
            for squares, kind in kinds([row for row in ALL_SQUARES if len(row) in (3, 4)]):
                self.assertEqual(times(kind, one, other), slow_times(squares, one, other))

    def test_what_was_handed_in_stays(self):
        kind = Kind([1, -1])
        one, other = (((), (1, 2)), ((0,), (1, 1))), (((1,), (3, 1)),)
        self.assertEqual(times(kind, one, other), (((0, 1), (3, 1)), ((1,), (3, 2))))
        self.assertEqual((one, other), ((((), (1, 2)), ((0,), (1, 1))), (((1,), (3, 1)),)))
        self.assertEqual((kind.count, kind.squares), (2, (1, -1)))


class PromiseTest(unittest.TestCase):
    """Point 4: products come out the same however they are put together."""

    def test_either_brackets(self):
        chance = chance_of("brackets")
        for squares, kind in kinds(ALL_SQUARES[::5]):
            one, other, third = [some_sum(chance, kind.count, 2) for _ in range(3)]
            self.assertEqual(times(kind, times(kind, one, other), third), times(kind, one, times(kind, other, third)))

    def test_by_plus_and_minus(self):
        chance = chance_of("spread")
        for squares, kind in kinds(ALL_SQUARES[::4]):
            one, other, third = [some_sum(chance, kind.count, 3) for _ in range(3)]
            for join in (plus, minus):
                self.assertEqual(times(kind, one, join(other, third)),
                                 join(times(kind, one, other), times(kind, one, third)))
                self.assertEqual(times(kind, join(other, third), one),
                                 join(times(kind, other, one), times(kind, third, one)))

    def test_by_scaled(self):
        chance = chance_of("by scaled")
        for squares, kind in kinds(ALL_SQUARES[::4]):
            one, other = some_sum(chance, kind.count, 3), some_sum(chance, kind.count, 3)
            for fraction in (some_fraction(chance, 3), (0, 1)):
                awaited = scaled(times(kind, one, other), fraction)
                self.assertEqual(times(kind, scaled(one, fraction), other), awaited)
                self.assertEqual(times(kind, one, scaled(other, fraction)), awaited)

    def test_one_and_nought(self):
        chance = chance_of("one")
        for squares, kind in kinds(ALL_SQUARES[::3]):
            one = some_sum(chance, kind.count, 40)
            self.assertEqual((times(kind, one, ONE), times(kind, ONE, one)), (one, one))
            self.assertEqual((times(kind, one, ()), times(kind, (), one)), ((), ()))
        self.assertEqual(times(Kind([]), (), ()), ())

    def test_steps(self):
        for squares, kind in kinds(ALL_SQUARES):
            for step, square in enumerate(squares):
                self.assertEqual(times(kind, step_sum(step), step_sum(step)), scaled(ONE, (square, 1)))
                for other in range(step + 1, kind.count):
                    found = times(kind, step_sum(step), step_sum(other))
                    self.assertEqual(found, (((step, other), (1, 1)),))
                    self.assertEqual(times(kind, step_sum(other), step_sum(step)), scaled(found, (-1, 1)))


if __name__ == "__main__":
    unittest.main()
