"""Points 20 and 21."""

import itertools
import time
import unittest

from helper import (ALL_SQUARES, ONE, all_products, chance_of, full_sum, kinds, no_sums, slow_order, slow_times,
                    some_fraction, some_sum, some_vector, step_sum)
from signsteps.errors import NoGrade, NoProduct, NoSum
from signsteps.flats import flat_parts, row_at
from signsteps.kinds import Kind
from signsteps.sums import is_sum, plus, scaled
from signsteps.turning import grades, part

NO_GRADES = [(), plus(ONE, step_sum(0)), (((0,), (1, 1)), ((0, 1), (1, 1))), (((), (1, 1)), ((0, 1), (1, 1)))]


def slow_outer(one, other):
    return slow_times((0,) * 5, one, other, lambda first, second: not first & second)


def slow_row(count, one, product):
    """The row at a product: each step ahead of the product's steps, brought in order."""
    terms = dict(one)
    found = []
    for step in range(count):
        if step not in product:
            sign, steps = slow_order((0,) * 5, (step,) + product)
            top, bottom = terms.get(steps, (0, 1))
            if top != 0:
                found.append(((step,), (sign * top, bottom)))
    return tuple(found)


def outer_of(vectors, number):
    """The outer product of vectors, one behind the other, taken by a number."""
    found = ONE
    for vector in vectors:
        found = slow_outer(found, vector)
    return scaled(found, number)


class RowTest(unittest.TestCase):
    def test_by_hand(self):
        kind = Kind([1, -1, 0])
        one = (((0, 1), (2, 3)), ((0, 2), (5, 1)), ((1, 2), (-7, 1)))
        self.assertEqual(row_at(kind, one, (0,)), (((1,), (-2, 3)), ((2,), (-5, 1))))
        self.assertEqual(row_at(kind, one, (1,)), (((0,), (2, 3)), ((2,), (7, 1))))
        self.assertEqual(row_at(kind, one, (2,)), (((0,), (5, 1)), ((1,), (-7, 1))))
        self.assertEqual(row_at(kind, (((0, 1, 2), (3, 1)),), (0, 2)), (((1,), (-3, 1)),))
        self.assertEqual(row_at(kind, (((0, 1, 2), (3, 1)),), (0, 1)), (((2,), (3, 1)),))
        self.assertEqual(row_at(kind, step_sum(2), ()), step_sum(2))
        self.assertEqual(row_at(kind, (((0, 1), (1, 1)),), (2,)), ())

    def test_each_sum_of_a_grade(self):
        chance = chance_of("rows")
        for squares, kind in kinds():
            for grade in range(1, kind.count + 1):
                products = [product for product in all_products(kind.count) if len(product) == grade]
                sums = [((product, (-3, 2)),) for product in products]
                sums += [part(full_sum(chance, kind.count, figures), grade) for figures in (1, 110)]
                sums.append(part(some_sum(chance, kind.count, 2), grade) or sums[0])
                for one, product in itertools.product(sums, all_products(kind.count)):
                    if len(product) == grade - 1:
                        found = row_at(kind, one, product)
                        self.assertEqual(found, slow_row(kind.count, one, product))
                        self.assertIs(is_sum(kind, found), True)

    def test_refused_with_no_product(self):
        kind = Kind([1, -1, 0])
        one = (((0, 1), (1, 1)), ((1, 2), (1, 1)))
        for spoilt in ((), (0, 1), (0, 1, 2), (3,), (-1,), (10 ** 39,), (0, 0), (1, 0)):
            self.assertRaises(NoProduct, row_at, kind, one, spoilt)
        for spoilt in ((), (0,), (1, 0), (1, 1), (0, 3), (-1, 0), (0, 1, 2)):
            self.assertRaises(NoProduct, row_at, kind, (((0, 1, 2), (1, 1)),), spoilt)
        for spoilt in ((), (0,), (0, 1), (-1,), (9,)):
            self.assertRaises(NoProduct, row_at, kind, ONE, spoilt)
            self.assertRaises(NoProduct, row_at, Kind([]), ONE, spoilt)
        self.assertRaises(NoProduct, row_at, kind, step_sum(0), (1,))

    def test_refused_in_order(self):
        kind = Kind([1, -1, 0])
        for product in ((), (0,), (1, 0), (9,)):
            for spoilt in no_sums(3):
                self.assertRaises(NoSum, row_at, kind, spoilt, product)
            for spoilt in NO_GRADES:
                self.assertRaises(NoGrade, row_at, kind, spoilt, product)


class FlatPartsTest(unittest.TestCase):
    def check(self, kind, one):
        told = flat_parts(kind, one)
        self.assertIsInstance(told, tuple)
        is_flat, shown = told
        grade = grades(one)[0]
        if is_flat is True:
            number, vectors = shown
            self.assertIsInstance(vectors, list)
            self.assertEqual(len(vectors), grade)
            for vector in vectors:
                self.assertIs(is_sum(kind, vector), True)
                self.assertEqual(grades(vector), [1])
            self.assertEqual(outer_of(vectors, number), one)
        else:
            self.assertIs(is_flat, False)
            self.assertIn(shown, all_products(kind.count))
            self.assertEqual(len(shown), grade - 1)
            self.assertNotEqual(slow_outer(slow_row(kind.count, one, shown), one), ())
        return is_flat

    def test_by_hand(self):
        kind = Kind([1, -1, 0, 1, 1])
        self.assertEqual(flat_parts(kind, (((), (-3, 7)),)), (True, ((-3, 7), [])))
        self.assertEqual(flat_parts(Kind([]), ONE), (True, ((1, 1), [])))
        self.assertIs(self.check(kind, (((0, 1), (1, 1)), ((2, 3), (1, 1)))), False)
        self.assertIs(self.check(kind, (((0, 1), (1, 1)), ((1, 2), (1, 1)))), True)
        self.assertIs(self.check(kind, (((0, 1, 2), (1, 1)), ((2, 3, 4), (1, 1)))), False)
        self.assertIs(self.check(kind, (((0, 1, 2), (1, 1)), ((1, 2, 3), (-2, 5)))), True)

    def test_each_product(self):
        for squares, kind in kinds():
            for product in all_products(kind.count):
                self.assertIs(self.check(kind, ((product, (-2, 3)),)), True)

    def test_grades_in_which_all_is_flat(self):
        chance = chance_of("all flat")
        for squares, kind in kinds():
            for grade in {0, 1, kind.count - 1, kind.count}:
                one = part(full_sum(chance, kind.count, 3), grade)
                if one:
                    self.assertIs(self.check(kind, one), True)

    def test_outer_products_of_vectors(self):
        chance = chance_of("flat")
        for squares, kind in kinds():
            for many in range(kind.count + 1):
                for share in (0.5, 2):
                    for figures in (1, 20):
                        vectors = [some_vector(chance, kind.count, figures, share) for _ in range(many)]
                        one = outer_of(vectors, some_fraction(chance, 2))
                        if one:
                            self.assertIs(self.check(kind, one), True)

    def test_sums_of_two(self):
        chance = chance_of("two flats")
        told = {True: 0, False: 0}
        for squares, kind in kinds([row for row in ALL_SQUARES if len(row) in (4, 5)][::3]):
            for many in (2, 3):
                pairs = [[some_vector(chance, kind.count, 1) for _ in range(many)] for _ in range(2)]
                one = plus(outer_of(pairs[0], (1, 2)), outer_of(pairs[1], (-3, 1)))
                near = plus(outer_of(pairs[0], (1, 2)), outer_of(pairs[0][1:] + pairs[1][:1], (2, 1)))
                for each in (one, near):
                    if each:
                        told[self.check(kind, each)] += 1
        self.assertGreater(min(told.values()), 50)

    def test_small_sums_of_a_grade(self):
        told = {True: 0, False: 0}
        for count, grade in ((4, 2), (5, 2), (5, 3)):
            kind = Kind([1, -1, 0, 1, -1][:count])
            products = [product for product in all_products(count) if len(product) == grade]
            for many in (2, 3, 4):
                for chosen in itertools.combinations(products, many):
                    told[self.check(kind, tuple((product, (1, 1)) for product in chosen))] += 1
        self.assertGreater(min(told.values()), 100)

    def test_long_fractions_are_told_soon(self):
        chance = chance_of("long flats")
        kind = Kind([1, -1, 0, 1, -1])
        begun = time.process_time()
        for grade in range(6):
            self.check(kind, part(full_sum(chance, 5, 110), grade))
            self.check(kind, outer_of([some_vector(chance, 5, 110, 2) for _ in range(grade)], (7, 3)))
        self.assertLess(time.process_time() - begun, 30)

    def test_new_lists_each_time(self):
        kind = Kind([1, -1])
        one = (((0, 1), (1, 1)),)
        flat_parts(kind, one)[1][1].clear()
        self.assertEqual(len(flat_parts(kind, one)[1][1]), 2)

    def test_refused(self):
        kind = Kind([1, -1, 0])
        for spoilt in no_sums(3):
            self.assertRaises(NoSum, flat_parts, kind, spoilt)
        for spoilt in NO_GRADES:
            self.assertRaises(NoGrade, flat_parts, kind, spoilt)


if __name__ == "__main__":
    unittest.main()
