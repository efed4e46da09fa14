"""Points 8 and 9."""

import unittest

from helper import (ALL_SQUARES, ONE, all_products, chance_of, full_sum, kinds, slow_sum, some_sum, step_sum)
from signsteps.sums import is_sum, times
from signsteps.turning import back, flipped, grades, part


class GradesTest(unittest.TestCase):
    def test_by_hand(self):
        one = (((), (1, 2)), ((0,), (1, 1)), ((0, 1, 2), (3, 1)), ((0, 2), (-1, 1)), ((1,), (2, 1)))
        self.assertEqual(grades(one), [0, 1, 2, 3])
        self.assertEqual(grades(()), [])
        self.assertEqual(grades(ONE), [0])
        self.assertEqual(grades((((0, 1, 2, 3, 4), (1, 1)), ((4,), (1, 1)))), [1, 5])

    def test_some_sums(self):
        chance = chance_of("grades")
        for count in range(6):
            for share in (0.1, 0.4, 2):
                one = some_sum(chance, count, 3, share)
                self.assertEqual(grades(one), sorted(set(len(product) for product, fraction in one)))

    def test_a_new_list_each_time(self):
        one = full_sum(chance_of("new"), 3, 1)
        told = grades(one)
        told.append(9)
        self.assertEqual(grades(one), [0, 1, 2, 3])
        self.assertIsInstance(told, list)


class PartTest(unittest.TestCase):
    def test_by_hand(self):
        one = (((), (1, 2)), ((0,), (1, 1)), ((0, 1), (3, 1)), ((1,), (2, 1)))
        self.assertEqual(part(one, 0), (((), (1, 2)),))
        self.assertEqual(part(one, 1), (((0,), (1, 1)), ((1,), (2, 1))))
        self.assertEqual(part(one, 2), (((0, 1), (3, 1)),))

    def test_grades_that_the_sum_has_not(self):
        one = full_sum(chance_of("far"), 3, 2)
        for grade in (-1, -2, 4, 5, 6, 10 ** 39, -10 ** 39, 10 ** 40 - 1, 2 ** 64, -(2 ** 63)):
            self.assertEqual(part(one, grade), ())
            self.assertEqual(part((), grade), ())
        self.assertEqual(part((((), (1, 1)), ((0, 1), (1, 1))), 1), ())

    def test_some_sums(self):
        chance = chance_of("parts")
        for squares, kind in kinds():
            one = some_sum(chance, kind.count, 110)
            for grade in range(-1, 7):
                found = part(one, grade)
                self.assertEqual(found, tuple(term for term in one if len(term[0]) == grade))
                self.assertIs(is_sum(kind, found), True)
                self.assertEqual(part(found, grade), found)


class TurnedTest(unittest.TestCase):
    def test_signs_by_grade(self):
        signs = {0: (1, 1), 1: (1, -1), 2: (-1, 1), 3: (-1, -1), 4: (1, 1), 5: (1, -1)}
        for grade, (by_back, by_flipped) in signs.items():
            product = tuple(range(grade))
            self.assertEqual(back(((product, (2, 3)),)), ((product, (2 * by_back, 3)),))
            self.assertEqual(flipped(((product, (-2, 3)),)), ((product, (-2 * by_flipped, 3)),))

    def test_by_the_steps(self):
        chance = chance_of("turned")
        for squares, kind in kinds():
            for one in (some_sum(chance, kind.count, 3), full_sum(chance, kind.count, 110), ()):
                rows = [(product[::-1], fraction) for product, fraction in one]
                self.assertEqual(back(one), slow_sum(squares, rows))
                rows = [(product, ((-1) ** len(product) * top, bottom)) for product, (top, bottom) in one]
                self.assertEqual(flipped(one), slow_sum(squares, rows))

    def test_twice_leads_back(self):
        chance = chance_of("twice")
        for count in range(6):
            one = full_sum(chance, count, 40)
            self.assertEqual(back(back(one)), one)
            self.assertEqual(flipped(flipped(one)), one)
            self.assertEqual(back(flipped(one)), flipped(back(one)))
        self.assertEqual((back(()), flipped(())), ((), ()))

    def test_of_products(self):
        chance = chance_of("of products")
        for squares, kind in kinds(ALL_SQUARES[::4]):
            one, other = some_sum(chance, kind.count, 3), some_sum(chance, kind.count, 3)
            product = times(kind, one, other)
            self.assertEqual(back(product), times(kind, back(other), back(one)))
            self.assertEqual(flipped(product), times(kind, flipped(one), flipped(other)))

    def test_of_each_two_products(self):
        for squares, kind in kinds([[1, -1, 0], [-1, -1, 1, 1], [1, 1, -1, -1, 1]]):
            for first in all_products(kind.count):
                for second in all_products(kind.count):
                    one, other = ((first, (1, 1)),), ((second, (1, 1)),)
                    self.assertEqual(back(times(kind, one, other)), times(kind, back(other), back(one)))

    def test_steps(self):
        for step in range(5):
            self.assertEqual(back(step_sum(step)), step_sum(step))
            self.assertEqual(flipped(step_sum(step)), (((step,), (-1, 1)),))


if __name__ == "__main__":
    unittest.main()
