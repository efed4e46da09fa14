"""Point 25, and the promise of point 4 about even parts."""

import unittest

from helper import (ALL_SQUARES, ONE, all_products, chance_of, full_sum, kinds, no_sums, slow_sum, slow_times, some_sum,
                    step_sum)
from signsteps.errors import NoEven, NoSquare, NoSum
from signsteps.evens import even_kind, into_even, out_of_even
from signsteps.kinds import Kind
from signsteps.sums import is_sum, times
from signsteps.turning import grades

WITH_EVENS = [row for row in ALL_SQUARES if row and row[-1] != 0]
WITHOUT_EVENS = [row for row in ALL_SQUARES if not row or row[-1] == 0]


def even_part(one):
    return tuple(term for term in one if len(term[0]) % 2 == 0)


def slow_into(squares, one):
    last = len(squares) - 1
    return slow_sum(squares, [(sum([(step, last) for step in product], ()), fraction) for product, fraction in one])


class EvenKindTest(unittest.TestCase):
    def test_each_kind(self):
        for squares, kind in kinds(WITH_EVENS):
            found = even_kind(kind)
            self.assertIsInstance(found, Kind)
            self.assertEqual(found.count, kind.count - 1)
            self.assertEqual(found.squares, tuple(-square * squares[-1] for square in squares[:-1]))
            for step, square in enumerate(found.squares):
                pair = ((step, kind.count - 1), (1, 1))
                self.assertEqual(slow_times(squares, (pair,), (pair,)), slow_sum(squares, [((), (square, 1))]))

    def test_refused(self):
        for squares, kind in kinds(WITHOUT_EVENS):
            for call in (even_kind, lambda kind: into_even(kind, ONE), lambda kind: out_of_even(kind, ONE),
                         lambda kind: into_even(kind, no_sums(4)[0]), lambda kind: out_of_even(kind, no_sums(5)[0]),
                         lambda kind: into_even(kind, no_sums(4)[2]), lambda kind: out_of_even(kind, step_sum(0))):
                with self.assertRaises(NoSquare) as caught:
                    call(kind)
                self.assertEqual(caught.exception.place, len(squares) - 1)


class LeadTest(unittest.TestCase):
    def test_by_hand(self):
        kind = Kind([1, 1, -1])
        self.assertEqual(into_even(kind, step_sum(0)), (((0, 2), (1, 1)),))
        self.assertEqual(into_even(kind, (((), (1, 2)), ((0, 1), (2, 3)))), (((), (1, 2)), ((0, 1), (2, 3))))
        self.assertEqual(into_even(Kind([1, 1, 1]), (((0, 1), (2, 3)),)), (((0, 1), (-2, 3)),))
        self.assertEqual(out_of_even(kind, (((1, 2), (1, 1)),)), step_sum(1))
        self.assertEqual(out_of_even(Kind([1, 1, 1]), (((0, 1), (2, 3)),)), (((0, 1), (-2, 3)),))
        self.assertEqual(into_even(Kind([1]), ONE), ONE)
        self.assertEqual(out_of_even(Kind([-1]), (((), (-5, 2)),)), (((), (-5, 2)),))

    def test_each_product_of_each_kind(self):
        for squares, kind in kinds(WITH_EVENS):
            smaller = even_kind(kind)
            for product in all_products(smaller.count):
                one = ((product, (-2, 3)),)
                found = into_even(kind, one)
                self.assertEqual(found, slow_into(squares, one))
                self.assertEqual(out_of_even(kind, found), one)
            for product in all_products(kind.count):
                if len(product) % 2 == 0:
                    one = ((product, (5, 7)),)
                    found = out_of_even(kind, one)
                    self.assertIs(is_sum(smaller, found), True)
                    self.assertEqual(slow_into(squares, found), one)

    def test_some_sums(self):
        chance = chance_of("evens")
        for squares, kind in kinds(WITH_EVENS[::2]):
            smaller = even_kind(kind)
            for one in (some_sum(chance, smaller.count, 3), full_sum(chance, smaller.count, 110), ()):
                found = into_even(kind, one)
                self.assertEqual(found, slow_into(squares, one))
                self.assertIs(is_sum(kind, found), True)
                self.assertTrue(all(grade % 2 == 0 for grade in grades(found)))
                self.assertEqual(out_of_even(kind, found), one)
            even = even_part(full_sum(chance, kind.count, 40))
            self.assertEqual(into_even(kind, out_of_even(kind, even)), even)
            self.assertIs(is_sum(smaller, out_of_even(kind, even)), True)

    def test_goes_with_times(self):
        chance = chance_of("even products")
        for squares, kind in kinds(WITH_EVENS):
            smaller = even_kind(kind)
            one, other = some_sum(chance, smaller.count, 2), some_sum(chance, smaller.count, 2)
            self.assertEqual(into_even(kind, times(smaller, one, other)),
                             times(kind, into_even(kind, one), into_even(kind, other)))
            one, other = even_part(some_sum(chance, kind.count, 2)), even_part(some_sum(chance, kind.count, 2))
            self.assertEqual(out_of_even(kind, times(kind, one, other)),
                             times(smaller, out_of_even(kind, one), out_of_even(kind, other)))

    def test_no_sums(self):
        for squares, kind in kinds(WITH_EVENS[::3]):
            for spoilt in no_sums(kind.count - 1):
                self.assertRaises(NoSum, into_even, kind, spoilt)
            for spoilt in no_sums(kind.count):
                self.assertRaises(NoSum, out_of_even, kind, spoilt)
            self.assertRaises(NoSum, into_even, kind, step_sum(kind.count - 1))
            if kind.count > 1:
                self.assertEqual(out_of_even(kind, (((0, kind.count - 1), (1, 1)),)), step_sum(0))
                self.assertRaises(NoSum, into_even, kind, (((0, kind.count - 1), (1, 1)),))

    def test_no_even_sums(self):
        for squares, kind in kinds(WITH_EVENS[::3]):
            for step in range(kind.count):
                self.assertRaises(NoEven, out_of_even, kind, step_sum(step))
                self.assertRaises(NoEven, out_of_even, kind, (((), (1, 1)), ((step,), (1, 1))))
        self.assertRaises(NoEven, out_of_even, Kind([0, 1, 1]), (((0, 1), (1, 1)), ((0, 1, 2), (1, 1))))


if __name__ == "__main__":
    unittest.main()
