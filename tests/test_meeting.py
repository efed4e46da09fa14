"""Points 10 and 11."""

import unittest

from helper import (ALL_SQUARES, ONE, chance_of, full_sum, kinds, no_sums, pair, slow_dot, slow_plus, slow_times,
                    some_sum, some_vector, step_sum, values_of)
from signsteps.errors import NoSum, NoVector
from signsteps.kinds import Kind
from signsteps.meeting import dot, inner, number_of, outer
from signsteps.sums import is_sum, scaled
from signsteps.turning import grades, part


def slow_outer(squares, one, other):
    return slow_times(squares, one, other, lambda first, second: not first & second)


def slow_inner(squares, one, other):
    return slow_times(squares, one, other, lambda first, second: first <= second)


class OuterInnerTest(unittest.TestCase):
    def test_by_hand(self):
        kind = Kind([1, -1, 0])
        one, other = step_sum(0), (((0, 1), (2, 3)), ((1, 2), (1, 1)))
        self.assertEqual(outer(kind, one, other), (((0, 1, 2), (1, 1)),))
        self.assertEqual(inner(kind, one, other), (((1,), (2, 3)),))
        self.assertEqual(inner(kind, other, one), ())
        self.assertEqual(inner(kind, step_sum(1), other), (((0,), (2, 3)), ((2,), (-1, 1))))
        self.assertEqual(inner(kind, step_sum(2), other), ())
        self.assertEqual(inner(kind, other, other), (((), (4, 9)),))
        self.assertEqual(outer(kind, step_sum(1), step_sum(0)), (((0, 1), (-1, 1)),))
        self.assertEqual(outer(kind, step_sum(1), step_sum(1)), ())

    def test_the_empty_product_meets_all(self):
        chance = chance_of("empty")
        for squares, kind in kinds():
            one = full_sum(chance, kind.count, 3)
            self.assertEqual(outer(kind, ONE, one), one)
            self.assertEqual(outer(kind, one, ONE), one)
            self.assertEqual(inner(kind, ONE, one), one)
            self.assertEqual(inner(kind, one, ONE), part(one, 0))
            for join in (outer, inner):
                self.assertEqual((join(kind, one, ()), join(kind, (), one)), ((), ()))

    def test_some_sums(self):
        chance = chance_of("outer")
        for squares, kind in kinds(ALL_SQUARES[::3]):
            one, other = some_sum(chance, kind.count, 3), some_sum(chance, kind.count, 3)
            self.assertEqual(outer(kind, one, other), slow_outer(squares, one, other))
            self.assertEqual(inner(kind, one, other), slow_inner(squares, one, other))

    def test_full_sums_of_long_fractions(self):
        chance = chance_of("long outer")
        for squares, kind in kinds([[1, -1, 1, -1, 1], [0, -1, 0, 1, 1]]):
            one, other = full_sum(chance, 5, 110), full_sum(chance, 5, 110)
            for join, slow in ((outer, slow_outer), (inner, slow_inner)):
                found = join(kind, one, other)
                self.assertEqual(found, slow(squares, one, other))
                self.assertIs(is_sum(kind, found), True)

    def test_outer_by_either_brackets(self):
        chance = chance_of("brackets")
        for squares, kind in kinds():
            one, other, third = [some_sum(chance, kind.count, 2) for _ in range(3)]
            self.assertEqual(outer(kind, outer(kind, one, other), third), outer(kind, one, outer(kind, other, third)))

    def test_outer_turned_about(self):
        chance = chance_of("about")
        for squares, kind in kinds():
            one, other = full_sum(chance, kind.count, 2), full_sum(chance, kind.count, 2)
            for grade in range(kind.count + 1):
                for other_grade in range(kind.count + 1):
                    first, second = part(one, grade), part(other, other_grade)
                    awaited = scaled(outer(kind, first, second), ((-1) ** (grade * other_grade), 1))
                    self.assertEqual(outer(kind, second, first), awaited)

    def test_no_sums(self):
        kind = Kind([1, -1])
        for join in (outer, inner):
            for spoilt in no_sums(2):
                self.assertRaises(NoSum, join, kind, spoilt, ONE)
                self.assertRaises(NoSum, join, kind, ONE, spoilt)
                self.assertRaises(NoSum, join, kind, (), spoilt)


class NumberTest(unittest.TestCase):
    def test_number_of(self):
        self.assertEqual(number_of(()), (0, 1))
        self.assertEqual(number_of((((), (-3, 7)),)), (-3, 7))
        self.assertEqual(number_of((((), (-3, 7)), ((0,), (1, 1)))), (-3, 7))
        self.assertEqual(number_of((((0,), (1, 2)), ((0, 1), (1, 1)))), (0, 1))


class DotTest(unittest.TestCase):
    def test_by_hand(self):
        kind = Kind([1, -1, 0])
        one, other = (((0,), (1, 2)), ((1,), (1, 3)), ((2,), (5, 1))), (((0,), (4, 1)), ((1,), (3, 5)), ((2,), (7, 1)))
        self.assertEqual(dot(kind, one, other), (9, 5))
        self.assertEqual(dot(kind, one, ()), (0, 1))
        self.assertEqual(dot(kind, (), ()), (0, 1))
        self.assertEqual(dot(Kind([]), (), ()), (0, 1))

    def test_half_of_the_product_either_way_about(self):
        chance = chance_of("dot")
        for squares, kind in kinds(ALL_SQUARES[::2]):
            for figures in (1, 110):
                one, other = some_vector(chance, kind.count, figures), some_vector(chance, kind.count, figures)
                both = slow_plus(slow_times(squares, one, other), slow_times(squares, other, one))
                found = dot(kind, one, other)
                self.assertEqual(scaled(ONE, found), scaled(both, (1, 2)))
                values, other_values = values_of(kind.count, one), values_of(kind.count, other)
                self.assertEqual(found, pair(slow_dot(squares, values, other_values)))

    def test_no_vectors(self):
        kind = Kind([1, 0])
        for spoilt in (ONE, (((0, 1), (1, 1)),), (((), (1, 1)), ((0,), (1, 1))), (((0,), (1, 1)), ((0, 1), (1, 1)))):
            self.assertNotEqual(grades(spoilt), [1])
            for one, other, place in ((spoilt, step_sum(0), 0), (step_sum(0), spoilt, 1), (spoilt, spoilt, 0),
                                      ((), spoilt, 1), (spoilt, (), 0)):
                with self.assertRaises(NoVector) as caught:
                    dot(kind, one, other)
                self.assertEqual(caught.exception.place, place)

    def test_no_sums_first(self):
        kind = Kind([1, 0])
        for spoilt in no_sums(2):
            self.assertRaises(NoSum, dot, kind, spoilt, step_sum(0))
            self.assertRaises(NoSum, dot, kind, step_sum(0), spoilt)
            self.assertRaises(NoSum, dot, kind, ONE, spoilt)
            self.assertRaises(NoSum, dot, kind, spoilt, ONE)


if __name__ == "__main__":
    unittest.main()
