"""Point 31, and the promise of point 4 about alike kinds."""

import itertools
import unittest

from helper import ALL_SQUARES, ONE, all_products, chance_of, full_sum, kinds, no_sums, slow_sum, some_sum, step_sum
from signsteps.crossings import cross, cross_four, crossed, fours
from signsteps.errors import NoCross, NoStep, NoSum
from signsteps.kinds import Kind
from signsteps.sums import is_sum, plus, times

FAR = (-1, 5, 6, -(10 ** 40) + 1, 10 ** 40 - 1)


def crossings():
    """Each kind with each step by which it can be crossed."""
    return [(squares, kind, step) for squares, kind in kinds(ALL_SQUARES) for step in range(kind.count)
            if squares[step] == 1]


def four_crossings():
    """Each kind with each four steps by which it can be crossed."""
    found = []
    for squares, kind in kinds(ALL_SQUARES):
        for steps in itertools.combinations(range(kind.count), 4):
            if squares[steps[0]] * squares[steps[1]] * squares[steps[2]] * squares[steps[3]] == 1:
                found.append((squares, kind, steps))
    return found


def slow_put(squares, one, stands):
    """Each step exchanged for what stands for it, reckoned with other squares."""
    return slow_sum(squares, [(sum([stands(step) for step in product], ()), fraction) for product, fraction in one])


class CrossTest(unittest.TestCase):
    def test_by_hand(self):
        kind = Kind([1, -1, 0])
        self.assertEqual(crossed(kind, 0).squares, (1, 1, 0))
        self.assertEqual(crossed(Kind([-1, 1, 1]), 2).squares, (1, -1, 1))
        self.assertEqual(crossed(Kind([1]), 0).squares, (1,))
        self.assertEqual(cross(kind, 0, step_sum(0)), step_sum(0))
        self.assertEqual(cross(kind, 0, step_sum(1)), (((0, 1), (-1, 1)),))
        self.assertEqual(cross(kind, 0, (((1, 2), (2, 3)),)), (((1, 2), (-2, 3)),))
        self.assertEqual(cross(Kind([1, 1]), 1, step_sum(0)), (((0, 1), (1, 1)),))
        self.assertEqual(cross(Kind([1, 1]), 1, (((0, 1), (1, 1)),)), step_sum(0))

    def test_each_product_of_each_kind(self):
        for squares, kind, step in crossings():
            other = crossed(kind, step)
            self.assertIsInstance(other, Kind)
            awaited = tuple(square if place == step else -square for place, square in enumerate(squares))
            self.assertEqual((other.squares, other.count), (awaited, kind.count))
            for product in all_products(kind.count)[::1 if kind.count < 5 else 3]:
                one = ((product, (-2, 3)),)
                found = cross(kind, step, one)
                stands = lambda place: (place,) if place == step else (place, step)
                self.assertEqual(found, slow_put(other.squares, one, stands))
                self.assertIs(is_sum(other, found), True)
                self.assertEqual(cross(other, step, found), one)

    def test_sums_and_products_go_with_it(self):
        chance = chance_of("cross")
        for squares, kind, step in crossings()[::2]:
            other = crossed(kind, step)
            self.assertEqual(crossed(other, step).squares, kind.squares)
            one, two = some_sum(chance, kind.count, 3), some_sum(chance, kind.count, 3)
            first, second = cross(kind, step, one), cross(kind, step, two)
            self.assertEqual((cross(other, step, first), cross(other, step, second)), (one, two))
            self.assertEqual(cross(kind, step, times(kind, one, two)), times(other, first, second))
            self.assertEqual(cross(kind, step, plus(one, two)), plus(first, second))
            self.assertEqual((cross(kind, step, ONE), cross(kind, step, ())), (ONE, ()))

    def test_long_fractions(self):
        chance = chance_of("long cross")
        one = full_sum(chance, 5, 110)
        for squares, kind, step in crossings()[-200::60]:
            self.assertEqual(cross(crossed(kind, step), step, cross(kind, step, one)), one)

    def test_refused(self):
        for squares, kind in kinds(ALL_SQUARES[::3]):
            for step in (*FAR, kind.count):
                for call in (lambda: crossed(kind, step), lambda: cross(kind, step, ONE),
                             lambda: cross(kind, step, ())):
                    if not 0 <= step < kind.count:
                        with self.assertRaises(NoStep) as caught:
                            call()
                        self.assertEqual(caught.exception.step, step)
                for wrong in no_sums(kind.count):
                    self.assertRaises(NoSum, cross, kind, step, wrong)
            for step in range(kind.count):
                if squares[step] != 1:
                    self.assertRaises(NoCross, crossed, kind, step)
                    self.assertRaises(NoCross, cross, kind, step, ONE)
                    self.assertRaises(NoSum, cross, kind, step, no_sums(kind.count)[0])


class FourTest(unittest.TestCase):
    def test_by_hand(self):
        kind = Kind([1, 1, -1, -1, 0])
        self.assertEqual(fours(kind, (0, 1, 2, 3)).squares, (-1, -1, 1, 1, 0))
        self.assertEqual(fours(Kind([0, -1, -1, -1, -1]), (1, 2, 3, 4)).squares, (0, 1, 1, 1, 1))
        four = Kind([1, 1, 1, 1])
        self.assertEqual(cross_four(four, (0, 1, 2, 3), step_sum(0)), (((1, 2, 3), (-1, 1)),))
        self.assertEqual(cross_four(four, (0, 1, 2, 3), step_sum(3)), (((0, 1, 2), (1, 1)),))
        self.assertEqual(cross_four(kind, (0, 1, 2, 3), step_sum(4)), step_sum(4))
        self.assertEqual(cross_four(four, (0, 1, 2, 3), (((0, 1, 2, 3), (1, 2)),)), (((0, 1, 2, 3), (1, 2)),))

    def test_each_product_of_each_kind(self):
        for squares, kind, steps in four_crossings():
            other = fours(kind, steps)
            self.assertIsInstance(other, Kind)
            awaited = tuple(-square if place in steps else square for place, square in enumerate(squares))
            self.assertEqual((other.squares, other.count), (awaited, kind.count))
            for product in all_products(kind.count):
                one = ((product, (5, 7)),)
                found = cross_four(kind, steps, one)
                stands = lambda place: (place,) + steps if place in steps else (place,)
                self.assertEqual(found, slow_put(other.squares, one, stands))
                self.assertIs(is_sum(other, found), True)
                self.assertEqual(cross_four(other, steps, found), one)

    def test_sums_and_products_go_with_it(self):
        chance = chance_of("four")
        for squares, kind, steps in four_crossings():
            other = fours(kind, steps)
            self.assertEqual(fours(other, steps).squares, kind.squares)
            one, two = some_sum(chance, kind.count, 2), some_sum(chance, kind.count, 2)
            first, second = cross_four(kind, steps, one), cross_four(kind, steps, two)
            self.assertEqual((cross_four(other, steps, first), cross_four(other, steps, second)), (one, two))
            self.assertEqual(cross_four(kind, steps, times(kind, one, two)), times(other, first, second))
            self.assertEqual(cross_four(kind, steps, plus(one, two)), plus(first, second))
            self.assertEqual((cross_four(kind, steps, ONE), cross_four(kind, steps, ())), (ONE, ()))

    def test_no_step(self):
        for squares, kind in kinds([[], [1], [1] * 4, [1, -1, 1, -1, 1], [0] * 5]):
            for far in (*FAR, kind.count):
                if 0 <= far < kind.count:
                    continue
                rows = [(far,), (far, -7), (far, far, far, far), (far, 10 ** 30, 1, 2, 3)]
                if kind.count >= 4:
                    rows += [(0, 1, 2, far), (0, far, -2, 3), (0, 0, 0, far, 9), (3, 2, far)]
                for steps in rows:
                    for call in (lambda: fours(kind, steps), lambda: cross_four(kind, steps, ONE)):
                        with self.assertRaises(NoStep) as caught:
                            call()
                        self.assertEqual(caught.exception.step, far)

    def test_no_cross(self):
        right = {(tuple(squares), steps) for squares, kind, steps in four_crossings()}
        for squares, kind in kinds(ALL_SQUARES):
            for steps in itertools.combinations(range(kind.count), 4):
                if (tuple(squares), steps) not in right:
                    self.assertRaises(NoCross, fours, kind, steps)
                    self.assertRaises(NoCross, cross_four, kind, steps, ONE)
        kind = Kind([1] * 5)
        for steps in ((), (0,), (0, 1, 2), (0, 1, 2, 3, 4), (0, 0, 1, 2), (0, 1, 1, 2), (1, 1, 1, 1), (0, 1, 3, 2),
                      (3, 2, 1, 0), (0, 1, 2, 3, 3)):
            self.assertRaises(NoCross, fours, kind, steps)
            self.assertRaises(NoCross, cross_four, kind, steps, ONE)

    def test_no_sum_goes_first(self):
        kind = Kind([1, 1, 1, -1])
        for wrong in no_sums(4):
            for steps in ((0, 1, 2, 3), (0, 1, 2, 9), (), (3, 2, 1, 0)):
                self.assertRaises(NoSum, cross_four, kind, steps, wrong)


if __name__ == "__main__":
    unittest.main()
