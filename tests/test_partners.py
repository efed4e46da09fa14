"""Points 12 and 13, and the second promise of point 4."""

import time
import unittest

from helper import (ALL_SQUARES, ONE, all_products, chance_of, full_sum, kinds, no_sums, slow_order, slow_times,
                    some_fraction, some_sum, step_sum)
from signsteps.errors import NoPartner, NoSum, StepError
from signsteps.kinds import Kind
from signsteps.partners import partner, quotient
from signsteps.sums import is_sum, plus, scaled, times

FIVES = [[1, -1, 1, -1, 1], [-1] * 5, [1] * 5, [0, 1, -1, 0, 1], [0] * 5]


def with_factors(chance, kind, one, many):
    """The sum with some factors 1 and less or more a product, to the left and to the right."""
    for _ in range(many):
        for is_left in (True, False):
            product = chance.choice(all_products(kind.count))
            factor = plus(ONE, ((product, (chance.choice((1, -1, 2)), 1)),))
            one = times(kind, factor, one) if is_left else times(kind, one, factor)
    return one


class PartnerTest(unittest.TestCase):
    def check(self, squares, kind, one):
        """What partner tells of a sum; each other answer than the one that it tells would be wrong."""
        told = partner(kind, one)
        self.assertIsInstance(told, tuple)
        is_there, other = told
        self.assertIs(is_sum(kind, other), True)
        if is_there is True:
            self.assertEqual(slow_times(squares, one, other), ONE)
            self.assertEqual(slow_times(squares, other, one), ONE)
        else:
            self.assertIs(is_there, False)
            self.assertNotEqual(other, ())
            self.assertEqual(slow_times(squares, one, other), ())
        return is_there

    def test_by_hand(self):
        kind = Kind([1, -1, 0])
        self.assertEqual(partner(kind, ONE), (True, ONE))
        self.assertEqual(partner(kind, (((), (-2, 3)),)), (True, (((), (-3, 2)),)))
        self.assertEqual(partner(kind, step_sum(0)), (True, step_sum(0)))
        self.assertEqual(partner(kind, step_sum(1)), (True, (((1,), (-1, 1)),)))
        self.assertEqual(partner(kind, (((), (1, 1)), ((1,), (1, 1)))), (True, (((), (1, 2)), ((1,), (-1, 2)))))
        self.assertEqual(partner(kind, (((), (1, 1)), ((2,), (5, 1)))), (True, (((), (1, 1)), ((2,), (-5, 1)))))
        for one in ((), step_sum(2), (((), (1, 1)), ((0,), (1, 1))), (((0,), (1, 1)), ((1,), (1, 1))),
                    (((0, 2), (1, 1)),)):
            self.assertIs(self.check([1, -1, 0], kind, one), False)

    def test_nought_and_numbers_of_each_kind(self):
        for squares, kind in kinds(ALL_SQUARES):
            self.assertIs(self.check(squares, kind, ()), False)
            self.assertEqual(partner(kind, ONE), (True, ONE))
            self.assertEqual(partner(kind, (((), (-7, 10 ** 109)),)), (True, (((), (-10 ** 109, 7)),)))

    def test_each_product_of_each_kind(self):
        for squares, kind in kinds(ALL_SQUARES[:121] + ALL_SQUARES[121::5]):
            for product in all_products(kind.count):
                number, empty = slow_order(squares, product + product)
                self.assertIs(self.check(squares, kind, ((product, (-2, 3)),)), number != 0)
                one = (((), (1, 1)), (product, (1, 1))) if product else ONE
                self.assertIs(self.check(squares, kind, one), number != 1 or not product)

    def test_some_sums(self):
        chance = chance_of("partners")
        for squares, kind in kinds(ALL_SQUARES):
            for share in (0.1, 0.3, 2):
                self.check(squares, kind, some_sum(chance, kind.count, 1, share))

    def test_sums_with_factors(self):
        chance = chance_of("factors")
        told = {True: 0, False: 0}
        for squares, kind in kinds(ALL_SQUARES[::2]):
            for many in (1, 2, 3):
                one = with_factors(chance, kind, some_sum(chance, kind.count, 1, chance.choice((0.2, 0.6, 2))), many)
                told[self.check(squares, kind, one)] += 1
        self.assertGreater(min(told.values()), 100)

    def test_sums_of_ones_and_less(self):
        chance = chance_of("ones")
        for squares, kind in kinds(ALL_SQUARES[121:]):
            products = all_products(kind.count)
            for _ in range(3):
                chosen = chance.sample(products, chance.choice((2, 3, 4, 8)))
                self.check(squares, kind, tuple((product, (chance.choice((1, -1)), 1)) for product in sorted(chosen)))

    def test_powers_that_come_to_nought(self):
        for squares in ([0] * 5, [1, -1, 0, 0, 1], [1, -1, 1, -1, 0], [1, -1, 1, -1, 1]):
            kind = Kind(squares)
            light = (((0,), (1, 1)), ((1,), (1, 1)))
            for other in all_products(5):
                one = times(kind, light, ((other, (3, 2)),))
                self.check(squares, kind, one)
                self.check(squares, kind, plus(one, ((tuple(range(5)), (1, 1)),)))
                self.check(squares, kind, plus(one, step_sum(4)))

    def test_full_sums_of_long_fractions_are_told_soon(self):
        chance = chance_of("long partners")
        for squares, kind in kinds(FIVES):
            one = full_sum(chance, 5, 110)
            begun = time.process_time()
            is_there, other = partner(kind, one)
            self.assertIs(is_there, True)
            self.assertEqual((times(kind, one, other), times(kind, other, one)), (ONE, ONE))
            self.assertIs(is_sum(kind, other), True)
            self.assertEqual(partner(kind, other), (True, one))
            self.assertLess(time.process_time() - begun, 60)

    def test_full_sums_of_long_fractions_that_make_nought(self):
        chance = chance_of("long noughts")
        for squares, kind in kinds(FIVES):
            begun = time.process_time()
            for product in ((0, 1, 4), (2,)):
                one = full_sum(chance, 5, 110)
                factor = (((), (1, 1)), (product, (1, 1)))
                for spoilt in (times(kind, one, factor), times(kind, factor, one)):
                    is_there, other = partner(kind, spoilt)
                    self.assertEqual(times(kind, spoilt, other), ONE if is_there else ())
                    self.assertNotEqual(other, ())
                    self.assertIs(is_there, slow_order(squares, product + product)[0] != 1)
            self.assertLess(time.process_time() - begun, 60)

    def test_asked_again(self):
        chance = chance_of("again")
        for squares, kind in kinds():
            for one in (some_sum(chance, kind.count, 3), with_factors(chance, kind, ONE, 2)):
                kept = tuple(one)
                self.assertEqual(partner(kind, one), partner(kind, one))
                self.assertEqual(one, kept)

    def test_no_sums(self):
        for squares, kind in kinds():
            for spoilt in no_sums(kind.count):
                self.assertRaises(NoSum, partner, kind, spoilt)


class QuotientTest(unittest.TestCase):
    def test_some_sums(self):
        chance = chance_of("quotients")
        told = {True: 0, False: 0}
        for squares, kind in kinds(ALL_SQUARES[::3]):
            one = some_sum(chance, kind.count, 2)
            for other in (some_sum(chance, kind.count, 2), with_factors(chance, kind, ONE, 1)):
                is_there = partner(kind, other)[0]
                told[is_there] += 1
                if is_there:
                    found = quotient(kind, one, other)
                    self.assertEqual(slow_times(squares, found, other), one)
                    self.assertIs(is_sum(kind, found), True)
                    continue
                with self.assertRaises(NoPartner) as caught:
                    quotient(kind, one, other)
                less = caught.exception.other
                self.assertIs(is_sum(kind, less), True)
                self.assertNotEqual(less, ())
                self.assertEqual(slow_times(squares, other, less), ())
        self.assertGreater(min(told.values()), 15)

    def test_by_hand(self):
        kind = Kind([1, -1])
        self.assertEqual(quotient(kind, step_sum(0), step_sum(1)), (((0, 1), (-1, 1)),))
        self.assertEqual(quotient(kind, step_sum(1), step_sum(0)), (((0, 1), (-1, 1)),))
        self.assertEqual(quotient(kind, (), step_sum(0)), ())
        self.assertEqual(quotient(kind, ONE, (((), (2, 3)),)), (((), (3, 2)),))

    def test_products_are_had_back(self):
        chance = chance_of("had back")
        for squares, kind in kinds():
            one, other = some_sum(chance, kind.count, 40), plus(ONE, scaled(ONE, some_fraction(chance, 40)))
            self.assertEqual(quotient(kind, times(kind, one, other), other), one)

    def test_long_fractions(self):
        chance = chance_of("long quotient")
        kind = Kind([1, -1, 1, -1, 1])
        one, other = full_sum(chance, 5, 110), full_sum(chance, 5, 110)
        begun = time.process_time()
        self.assertEqual(times(kind, quotient(kind, one, other), other), one)
        self.assertLess(time.process_time() - begun, 60)

    def test_nought_has_no_partner(self):
        for squares, kind in kinds():
            with self.assertRaises(NoPartner) as caught:
                quotient(kind, ONE, ())
            self.assertNotEqual(caught.exception.other, ())
            self.assertIs(is_sum(kind, caught.exception.other), True)
            self.assertIsInstance(caught.exception, StepError)

    def test_no_sums_first(self):
        kind = Kind([1, 0])
        for spoilt in no_sums(2):
            self.assertRaises(NoSum, quotient, kind, spoilt, ONE)
            self.assertRaises(NoSum, quotient, kind, ONE, spoilt)
            self.assertRaises(NoSum, quotient, kind, spoilt, ())
            self.assertRaises(NoSum, quotient, kind, spoilt, spoilt)


if __name__ == "__main__":
    unittest.main()
