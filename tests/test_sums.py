"""Point 6 and plus, minus and scaled of point 7, and points 2 and 3 for them."""

import copy
import itertools
import unittest
from fractions import Fraction

from helper import (ALL_SQUARES, ONE, all_products, chance_of, full_sum, kinds, slow_sum, some_fraction, some_rows,
                    some_sum)
from signsteps.errors import NoStep, NoSum, StepError
from signsteps.kinds import Kind
from signsteps.sums import is_sum, minus, plus, scaled, sum_of, times


def has_the_form(terms):
    """Whether terms have the form of a sum, told by Python's own fractions."""
    for product, (top, bottom) in terms:
        if list(product) != sorted(set(product)) or bottom < 1 or top == 0:
            return False
        if (Fraction(top, bottom).numerator, Fraction(top, bottom).denominator) != (top, bottom):
            return False
    products = [product for product, fraction in terms]
    return products == sorted(set(products))


class SumOfTest(unittest.TestCase):
    def test_by_hand(self):
        kind = Kind([1, -1, 0])
        rows = {
            ((), (3, 4)): (((), (3, 4)),),
            ((0,), (1, 1)): (((0,), (1, 1)),),
            ((1, 0), (1, 2)): (((0, 1), (-1, 2)),),
            ((2, 1, 0), (1, 1)): (((0, 1, 2), (-1, 1)),),
            ((1, 2, 0), (1, 1)): (((0, 1, 2), (1, 1)),),
            ((0, 0), (5, 1)): (((), (5, 1)),),
            ((1, 1), (5, 1)): (((), (-5, 1)),),
            ((2, 2), (5, 1)): (),
            ((0, 1, 0), (1, 1)): (((1,), (-1, 1)),),
            ((1, 0, 1), (1, 1)): (((0,), (1, 1)),),
            ((1, 1, 1), (1, 1)): (((1,), (-1, 1)),),
            ((2, 0, 2), (1, 1)): (),
            ((0, 1, 2, 0), (2, 3)): (((1, 2), (2, 3)),),
        }
        for row, awaited in rows.items():
            with self.subTest(row=row):
                self.assertEqual(sum_of(kind, [row]), awaited)

    def test_each_short_row_of_each_small_kind(self):
        for squares, kind in kinds([row for row in ALL_SQUARES if len(row) <= 3]):
            for many in range(5):
                for steps in itertools.product(range(kind.count), repeat=many):
                    row = (steps, (-2, 3))
                    self.assertEqual(sum_of(kind, [row]), slow_sum(squares, [row]))

    def test_many_rows(self):
        chance = chance_of("rows")
        for squares, kind in kinds():
            for figures in (1, 2, 110):
                for longest in (2, 6, 40):
                    rows = some_rows(chance, kind.count, chance.randint(1, 40), longest, figures)
                    found = sum_of(kind, rows)
                    self.assertEqual(found, slow_sum(squares, rows))
                    self.assertTrue(has_the_form(found))
                    self.assertIs(is_sum(kind, found), True)

    def test_each_kind_of_five(self):
        chance = chance_of("fives")
        for squares, kind in kinds([row for row in ALL_SQUARES if len(row) == 5]):
            rows = some_rows(chance, 5, 12, 9, 2)
            self.assertEqual(sum_of(kind, rows), slow_sum(squares, rows))

    def test_no_rows_and_rows_without_steps(self):
        for squares, kind in kinds():
            self.assertEqual(sum_of(kind, []), ())
            self.assertEqual(sum_of(kind, [((), (-3, 2))]), (((), (-3, 2)),))
            self.assertEqual(sum_of(kind, [((), (1, 2)), ((), (1, 3))]), (((), (5, 6)),))

    def test_like_products_come_together(self):
        kind = Kind([1, -1])
        rows = [((0, 1), (1, 3)), ((1,), (1, 2)), ((1, 0), (1, 6)), ((1, 1, 1), (1, 4)), ((0, 1), (-1, 12))]
        self.assertEqual(sum_of(kind, rows), (((0, 1), (1, 12)), ((1,), (1, 4))))

    def test_rows_that_put_one_another_out(self):
        kind = Kind([1, -1])
        self.assertEqual(sum_of(kind, [((0, 1), (2, 3)), ((1, 0), (2, 3))]), ())
        self.assertEqual(sum_of(kind, [((0, 0), (1, 1)), ((1, 1), (1, 1))]), ())
        self.assertEqual(sum_of(kind, [((0,), (1, 2)), ((), (1, 1)), ((0,), (-1, 2))]), ONE)

    def test_fractions_that_are_nought(self):
        kind = Kind([1, 0])
        self.assertEqual(sum_of(kind, [((0,), (0, 1))]), ())
        self.assertEqual(sum_of(kind, [((0,), (0, 1)), ((1,), (1, 2)), ((1,), (0, 1))]), (((1,), (1, 2)),))

    def test_the_order_of_the_terms(self):
        kind = Kind([1, 1, 1, 1, 1])
        rows = [(product, (1, 1)) for product in all_products(5)]
        awaited = tuple(rows)
        self.assertEqual([product for product, fraction in awaited][:4], [(), (0,), (0, 1), (0, 1, 2)])
        for _ in range(5):
            chance_of("order").shuffle(rows)
            self.assertEqual(sum_of(kind, rows), awaited)

    def test_kinds_of_values(self):
        found = sum_of(Kind([1, -1]), [((1, 0), (2, 3)), ((0,), (1, 1))])
        self.assertIs(type(found), tuple)
        for term in found:
            self.assertEqual([type(thing) for thing in (term, term[0], term[1])], [tuple] * 3)
            self.assertTrue(all(type(number) is int for number in term[0] + term[1]))

    def test_no_step(self):
        for squares, kind in kinds():
            for wrong in (kind.count, kind.count + 1, -1, -kind.count - 1, 10 ** 40 - 1, 1 - 10 ** 40):
                for rows in ([((wrong,), (1, 1))], [((wrong, wrong), (1, 1))], [((wrong,), (0, 1))],
                             [((), (1, 1)), ((wrong, -7), (1, 2)), ((-8,), (1, 1))]):
                    with self.subTest(squares=squares, rows=rows), self.assertRaises(NoStep) as caught:
                        sum_of(kind, rows)
                    self.assertEqual(caught.exception.step, wrong)

    def test_the_first_number_that_is_no_step(self):
        kind = Kind([0, 1])
        for rows, wrong in (([((0, 1, 3, 2), (1, 1))], 3), ([((1, 0), (1, 1)), ((0, 0, -5), (1, 1))], -5),
                            ([((0, 9), (0, 1)), ((4,), (1, 1))], 9), ([((0, 0, 2), (1, 1))], 2),
                            ([((1,), (1, 1)), ((7, 6), (1, 1)), ((5,), (1, 1))], 7)):
            with self.assertRaises(NoStep) as caught:
                sum_of(kind, rows)
            self.assertEqual(caught.exception.step, wrong)

    def test_the_list_stays_and_is_let_go(self):
        kind = Kind([1, -1, 0])
        rows = some_rows(chance_of("stays"), 3, 20, 5, 3)
        before = copy.deepcopy(rows)
        found = sum_of(kind, rows)
        self.assertEqual(rows, before)
        self.assertEqual(sum_of(kind, rows), found)
        kept = copy.deepcopy(found)
        rows[0] = ((0,), (99, 1))
        rows.clear()
        self.assertEqual(found, kept)
        wrong = [((0,), (1, 1)), ((3,), (1, 1))]
        with self.assertRaises(NoStep):
            sum_of(kind, wrong)
        self.assertEqual(wrong, [((0,), (1, 1)), ((3,), (1, 1))])

    def test_the_same_rows_in_other_kinds_by_turns(self):
        rows = some_rows(chance_of("turns"), 3, 15, 6, 2)
        for _ in range(2):
            for squares, kind in kinds([row for row in ALL_SQUARES if len(row) == 3]):
                self.assertEqual(sum_of(kind, rows), slow_sum(squares, rows))


class IsSumTest(unittest.TestCase):
    def test_sums(self):
        chance = chance_of("is sum")
        for squares, kind in kinds():
            self.assertIs(is_sum(kind, ()), True)
            for product in all_products(kind.count):
                for fraction in ((1, 1), (-1, 1), (2, 3), (-10 ** 109, 10 ** 109 + 1)):
                    self.assertIs(is_sum(kind, ((product, fraction),)), True)
            for figures in (1, 40, 110):
                self.assertIs(is_sum(kind, full_sum(chance, kind.count, figures)), True)
                self.assertIs(is_sum(kind, some_sum(chance, kind.count, figures)), True)

    def test_terms_exchanged_or_told_twice(self):
        kind = Kind([1, -1, 0])
        terms = full_sum(chance_of("exchanged"), 3, 2)
        for one, other in itertools.combinations(range(len(terms)), 2):
            rows = list(terms)
            rows[one], rows[other] = rows[other], rows[one]
            self.assertIs(is_sum(kind, tuple(rows)), False)
        for place, term in enumerate(terms):
            self.assertIs(is_sum(kind, terms[:place] + (term,) + terms[place:]), False)
            self.assertIs(is_sum(kind, terms + (term,)), False)
        self.assertIs(is_sum(kind, (((0,), (1, 2)), ((0,), (1, 3)))), False)
        # In order by their grades, but not in the order of Python's tuples.
        self.assertIs(is_sum(kind, (((0,), (1, 1)), ((1,), (1, 1)), ((0, 1), (1, 1)))), False)

    def test_what_is_no_fraction_there(self):
        kind = Kind([1, -1, 0])
        wrong = [(0, 1), (0, 2), (0, 0), (0, -1), (2, 2), (2, 4), (-3, 9), (6, 4), (1, 0), (-1, 0), (1, -1), (1, -2),
                 (-1, -2), (2, -4), (10 ** 109, 10 ** 109), (3 * 10 ** 100, 9), (1, -10 ** 109)]
        for fraction in wrong:
            for product in all_products(3):
                self.assertIs(is_sum(kind, ((product, fraction),)), False)
            self.assertIs(is_sum(kind, (((), (1, 1)), ((0,), fraction), ((1,), (1, 1)))), False)
            self.assertIs(is_sum(kind, (((), (1, 1)), ((2,), fraction))), False)

    def test_what_is_no_product(self):
        kind = Kind([1, -1, 0])
        for steps in ((1, 0), (0, 0), (0, 1, 1), (2, 1, 0), (0, 2, 1), (3,), (-1,), (0, 3), (-1, 0), (0, 10 ** 39),
                      (-10 ** 39,), (2, 2, 2, 2), tuple(range(40))):
            self.assertIs(is_sum(kind, ((steps, (1, 1)),)), False)
            self.assertIs(is_sum(kind, (((), (1, 1)), (steps, (1, 1)))), False)

    def test_each_kind_by_its_own_steps(self):
        for count in range(6):
            kind = Kind([0] * count)
            for step in range(-2, 8):
                self.assertIs(is_sum(kind, ((((step,), (1, 1))),)), 0 <= step < count)

    def test_other_forms_are_no_sums(self):
        kind = Kind([1, -1])
        for thing in ([], None, 1, "ab", ((),), (1,), ((0, (1, 1)),), (((0,), 1),), (((0,),),), (((0,), (1,)),),
                      (((0,), (1, 1), 1),), (((0,), (1, 1, 1)),), (((True,), (1, 1)),), (((0,), (True, 1)),)):
            self.assertIs(is_sum(kind, thing), False)


class PlusMinusScaledTest(unittest.TestCase):
    def test_plus_and_minus(self):
        chance = chance_of("plus")
        for squares, kind in kinds():
            for figures in (1, 2, 40, 110):
                one, other = some_sum(chance, kind.count, figures), some_sum(chance, kind.count, figures)
                turned = tuple((product, (-top, bottom)) for product, (top, bottom) in other)
                self.assertEqual(plus(one, other), slow_sum(squares, one + other))
                self.assertEqual(plus(one, other), plus(other, one))
                self.assertEqual(minus(one, other), slow_sum(squares, one + turned))
                self.assertEqual(plus(minus(one, other), other), one)
                for found in (plus(one, other), minus(one, other)):
                    self.assertIs(is_sum(kind, found), True)

    def test_terms_that_put_one_another_out(self):
        one = (((), (1, 2)), ((0,), (1, 3)), ((1,), (2, 1)))
        other = (((), (1, 2)), ((0,), (-1, 3)), ((0, 1), (5, 1)))
        self.assertEqual(plus(one, other), (((), (1, 1)), ((0, 1), (5, 1)), ((1,), (2, 1))))
        self.assertEqual(minus(one, other), (((0,), (2, 3)), ((0, 1), (-5, 1)), ((1,), (2, 1))))

    def test_nought_and_a_sum_with_itself(self):
        chance = chance_of("itself")
        self.assertEqual((plus((), ()), minus((), ()), scaled((), (2, 3)), scaled((), (0, 1))), ((), (), (), ()))
        for count in range(6):
            one = full_sum(chance, count, 110)
            turned = tuple((product, (-top, bottom)) for product, (top, bottom) in one)
            self.assertEqual(plus(one, ()), one)
            self.assertEqual(plus((), one), one)
            self.assertEqual(minus(one, ()), one)
            self.assertEqual(minus((), one), turned)
            self.assertEqual(minus(one, one), ())
            self.assertEqual(plus(one, turned), ())
            self.assertEqual(plus(one, one), scaled(one, (2, 1)))
            self.assertEqual(minus(one, turned), scaled(one, (2, 1)))
            self.assertEqual(scaled(one, (-1, 1)), turned)
            self.assertEqual(scaled(one, (1, 1)), one)
            self.assertEqual(scaled(one, (0, 1)), ())

    def test_scaled(self):
        chance = chance_of("scaled")
        for count in range(6):
            for figures in (1, 2, 110):
                one, fraction = full_sum(chance, count, figures), some_fraction(chance, figures)
                rows = [(product, (top * fraction[0], bottom * fraction[1])) for product, (top, bottom) in one]
                self.assertEqual(scaled(one, fraction), slow_sum([0] * count, rows))
                back = (fraction[1], fraction[0]) if fraction[0] > 0 else (-fraction[1], -fraction[0])
                self.assertEqual(scaled(scaled(one, fraction), back), one)
        self.assertEqual(scaled((((), (2, 3)), ((0,), (-9, 4))), (-2, 3)), (((), (-4, 9)), ((0,), (3, 2))))

    def test_what_was_told_again(self):
        one = (((), (1, 3)), ((0,), (2, 1)))
        other = (((), (1, 6)), ((1,), (1, 1)))
        for _ in range(2):
            self.assertEqual(plus(one, other), (((), (1, 2)), ((0,), (2, 1)), ((1,), (1, 1))))
            self.assertEqual(minus(one, other), (((), (1, 6)), ((0,), (2, 1)), ((1,), (-1, 1))))
            self.assertEqual(scaled(one, (3, 2)), (((), (1, 2)), ((0,), (3, 1))))
        self.assertEqual((one, other), ((((), (1, 3)), ((0,), (2, 1))), (((), (1, 6)), ((1,), (1, 1)))))


class RefusalTest(unittest.TestCase):
    def test_times_refuses_what_is_no_sum(self):
        kind = Kind([1, -1])
        good = (((), (1, 2)), ((0, 1), (3, 1)))
        wrong = [(((0,), (0, 1)),), (((0,), (2, 4)),), (((0,), (1, 0)),), (((0,), (1, -1)),), (((2,), (1, 1)),),
                 (((-1,), (1, 1)),), (((1, 0), (1, 1)),), (((0, 0), (1, 1)),), (((0,), (1, 1)), ((), (1, 1))),
                 (((0,), (1, 1)), ((0,), (1, 1))), (((0,), (1, 1)), ((1,), (0, 1)))]
        for bad in wrong:
            self.assertIs(is_sum(kind, bad), False)
            for one, other in ((bad, good), (good, bad), (bad, ()), ((), bad), (bad, bad)):
                with self.subTest(one=one, other=other), self.assertRaises(NoSum) as caught:
                    times(kind, one, other)
                self.assertIsInstance(caught.exception, StepError)
        self.assertEqual(times(kind, good, ONE), good)

    def test_a_sum_of_another_kind(self):
        one = (((0, 2), (1, 1)),)
        self.assertEqual(times(Kind([0, 0, 0]), one, ONE), one)
        for count in range(3):
            with self.assertRaises(NoSum):
                times(Kind([0] * count), one, ONE)
            with self.assertRaises(NoSum):
                times(Kind([0] * count), ONE, one)


if __name__ == "__main__":
    unittest.main()
