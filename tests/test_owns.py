"""Points 22 to 24."""

import copy
import unittest

from helper import (ALL_SQUARES, ONE, all_products, chance_of, full_sum, kinds, no_sums, slow_led, slow_order,
                    slow_plus, slow_times, some_sum, step_sum, table_from, table_values)
from signsteps.errors import NoHalves, NoSum, NoTable
from signsteps.kinds import Kind
from signsteps.owns import beside_all, folded, halves, own_table, products_of, sum_at
from signsteps.sums import is_sum, scaled, times
from signsteps.turning import grades

WITH_HALVES = [row for row in ALL_SQUARES if len(row) % 2 == 1 and all(row)
               and slow_order(row, tuple(range(len(row))) * 2)[0] == 1]


def slow_table(squares, one):
    products = all_products(len(squares))
    rows = []
    for product in products:
        found = dict(slow_times(squares, one, ((product, (1, 1)),)))
        rows.append([found.get(other, (0, 1)) for other in products])
    return rows


def slow_sum_at(squares, rows):
    one = tuple((product, fraction) for product, fraction in zip(all_products(len(squares)), rows[0]) if fraction[0])
    return one if slow_table(squares, one) == rows else None


def gone_by(one, other):
    """The table of going by the one table, then by the other."""
    values = table_values(other)
    return table_from([slow_led(values, row) for row in table_values(one)])


class ProductsTest(unittest.TestCase):
    def test_order(self):
        self.assertEqual(products_of(Kind([])), [()])
        self.assertEqual(products_of(Kind([1, 0])), [(), (0,), (0, 1), (1,)])
        self.assertEqual(products_of(Kind([1, 0, -1])), [(), (0,), (0, 1), (0, 1, 2), (0, 2), (1,), (1, 2), (2,)])
        for squares, kind in kinds():
            self.assertEqual(products_of(kind), all_products(kind.count))

    def test_a_new_list_each_time(self):
        kind = Kind([1])
        products_of(kind).clear()
        self.assertEqual(products_of(kind), [(), (0,)])


class OwnTableTest(unittest.TestCase):
    def test_by_hand(self):
        kind = Kind([-1])
        one = (((), (1, 2)), ((0,), (3, 1)))
        self.assertEqual(own_table(kind, one), [[(1, 2), (3, 1)], [(-3, 1), (1, 2)]])
        self.assertEqual(own_table(Kind([]), (((), (-5, 2)),)), [[(-5, 2)]])
        self.assertEqual(own_table(Kind([0]), step_sum(0)), [[(0, 1), (1, 1)], [(0, 1), (0, 1)]])

    def test_some_sums(self):
        chance = chance_of("own tables")
        for squares, kind in kinds():
            for one in (some_sum(chance, kind.count, 2), full_sum(chance, kind.count, 110), ONE, ()):
                table = own_table(kind, one)
                self.assertEqual(table, slow_table(squares, one))
                self.assertEqual(sum_at(kind, table), one)

    def test_each_step_of_each_kind(self):
        for squares, kind in kinds(ALL_SQUARES[:121] + ALL_SQUARES[121::9]):
            tables = [own_table(kind, step_sum(step)) for step in range(kind.count)]
            for first, table in enumerate(tables):
                self.assertEqual(table, slow_table(squares, step_sum(first)))
                self.assertLessEqual({top for row in table for top, bottom in row}, {0, 1, -1})
                if kind.count < 4:
                    self.assertEqual(gone_by(table, table), own_table(kind, scaled(ONE, (squares[first], 1))))

    def test_unlike_steps_turn_the_sign(self):
        for squares, kind in kinds([row for row in ALL_SQUARES if len(row) == 3]):
            tables = [own_table(kind, step_sum(step)) for step in range(3)]
            for first in range(3):
                for second in range(first):
                    turned = [[(-top, bottom) for top, bottom in row] for row in gone_by(tables[first], tables[second])]
                    self.assertEqual(gone_by(tables[second], tables[first]), turned)

    def test_of_products(self):
        chance = chance_of("own products")
        for squares, kind in kinds():
            if kind.count < 5:
                one, other = some_sum(chance, kind.count, 1), some_sum(chance, kind.count, 1)
                self.assertEqual(own_table(kind, times(kind, one, other)),
                                 gone_by(own_table(kind, other), own_table(kind, one)))

    def test_nought(self):
        for squares, kind in kinds():
            many = 2 ** kind.count
            self.assertEqual(own_table(kind, ()), [[(0, 1)] * many for _ in range(many)])

    def test_new_lists_each_time(self):
        kind = Kind([1, 0])
        for one in ((), ONE, step_sum(1)):
            awaited = own_table(kind, one)
            table = own_table(kind, one)
            table[0][0] = None
            table[1].clear()
            table[3].append(None)
            self.assertEqual([len(row) for row in table], [4, 0, 4, 5])
            self.assertEqual(own_table(kind, one), awaited)

    def test_no_sums(self):
        kind = Kind([1, -1])
        for spoilt in no_sums(2):
            self.assertRaises(NoSum, own_table, kind, spoilt)


class SumAtTest(unittest.TestCase):
    def test_lists_that_are_none(self):
        chance = chance_of("none")
        for squares, kind in kinds([row for row in ALL_SQUARES if 1 <= len(row) <= 3]):
            table = own_table(kind, some_sum(chance, kind.count, 2))
            for row in range(len(table)):
                for place in range(len(table)):
                    spoilt = copy.deepcopy(table)
                    top, bottom = spoilt[row][place]
                    spoilt[row][place] = (top + bottom, bottom)
                    kept = copy.deepcopy(spoilt)
                    self.assertEqual(sum_at(kind, spoilt), slow_sum_at(squares, spoilt))
                    self.assertEqual(spoilt, kept)
                    # Where no square is nought each row tells the sum, and so two rows that part are none's.
                    if all(squares):
                        self.assertIsNone(sum_at(kind, spoilt))

    def test_one_place_of_a_great_table(self):
        chance = chance_of("great")
        for squares, kind in kinds([[1, -1, 0, 1, -1], [0] * 5]):
            one = full_sum(chance, 5, 2)
            for row, place in ((31, 31), (17, 3), (1, 0), (0, 1)):
                spoilt = own_table(kind, one)
                spoilt[row][place] = (12345, 67)
                self.assertIsNone(sum_at(kind, spoilt))

    def test_the_product_of_all_in_a_kind_of_noughts(self):
        kind = Kind([0, 0])
        table = own_table(kind, ONE)
        table[0][2] = (-3, 2)
        self.assertEqual(sum_at(kind, table), (((), (1, 1)), ((0, 1), (-3, 2))))

    def test_every_number_is_a_sum_without_steps(self):
        self.assertEqual(sum_at(Kind([]), [[(-3, 2)]]), (((), (-3, 2)),))
        self.assertEqual(sum_at(Kind([]), [[(0, 1)]]), ())

    def test_no_tables(self):
        for squares, kind in kinds():
            many = 2 ** kind.count
            table = own_table(kind, ONE)
            rows = [([], many), (table[1:], many), (table + [table[0]], many), ([[]] * (many + 1), many)]
            for place in range(0, many, 5):
                for spoilt in ([], table[place][1:], table[place] + [(0, 1)]):
                    rows.append((table[:place] + [spoilt] + table[place + 1:], place))
                    rows.append((table[:place] + [spoilt] + [[]] * (many - place - 1), place))
            for spoilt, row in rows:
                with self.assertRaises(NoTable) as caught:
                    sum_at(kind, spoilt)
                self.assertEqual(caught.exception.row, row)


class BesideAllTest(unittest.TestCase):
    def test_each_kind(self):
        for squares, kind in kinds(ALL_SQUARES):
            awaited = []
            for product in all_products(kind.count):
                if all(slow_order(squares, product + (step,)) == slow_order(squares, (step,) + product)
                       for step in range(kind.count)):
                    awaited.append(product)
            self.assertEqual(beside_all(kind), awaited)
            if all(squares):
                everything = [tuple(range(kind.count))] if kind.count % 2 == 1 else []
                self.assertEqual(beside_all(kind), [()] + everything)

    def test_against_products(self):
        for squares, kind in kinds():
            found = beside_all(kind)
            for product in all_products(kind.count):
                one = ((product, (1, 1)),)
                is_beside = all(times(kind, one, step_sum(step)) == times(kind, step_sum(step), one)
                                for step in range(kind.count))
                self.assertEqual(product in found, is_beside)

    def test_by_hand(self):
        self.assertEqual(beside_all(Kind([])), [()])
        self.assertEqual(beside_all(Kind([0])), [(), (0,)])
        self.assertEqual(beside_all(Kind([1, 0])), [()])
        self.assertEqual(beside_all(Kind([0, 0])), [(), (0, 1)])
        found = beside_all(Kind([0, 0, 0]))
        self.assertEqual(found, [(), (0, 1), (0, 1, 2), (0, 2), (1, 2)])
        found.clear()
        self.assertEqual(len(beside_all(Kind([0, 0, 0]))), 5)


class HalvesTest(unittest.TestCase):
    def test_each_kind(self):
        many = 0
        for squares, kind in kinds(ALL_SQUARES):
            found = halves(kind)
            if squares not in WITH_HALVES:
                self.assertIsNone(found)
                continue
            many += 1
            everything = tuple(range(kind.count))
            one, other = found
            self.assertIsInstance(found, tuple)
            self.assertEqual(one, (((), (1, 2)), (everything, (1, 2))))
            self.assertEqual(other, (((), (1, 2)), (everything, (-1, 2))))
            self.assertEqual(slow_times(squares, one, one), one)
            self.assertEqual(slow_times(squares, other, other), other)
            self.assertEqual(slow_times(squares, one, other), ())
            self.assertEqual(slow_times(squares, other, one), ())
            self.assertEqual(slow_plus(one, other), ONE)
        self.assertEqual(many, len(WITH_HALVES))
        self.assertGreater(many, 10)

    def test_by_hand(self):
        self.assertIsNone(halves(Kind([])))
        self.assertIsNone(halves(Kind([-1])))
        self.assertIsNone(halves(Kind([0])))
        self.assertIsNone(halves(Kind([1, -1])))
        self.assertIsNone(halves(Kind([1, 1, 1])))
        self.assertIsNotNone(halves(Kind([1])))
        self.assertIsNotNone(halves(Kind([1, 1, -1])))
        self.assertIsNotNone(halves(Kind([-1, -1, -1])))


class FoldedTest(unittest.TestCase):
    def test_some_sums(self):
        chance = chance_of("folded")
        for squares, kind in kinds(WITH_HALVES):
            for which in (0, 1):
                half = halves(kind)[which]
                one, other = full_sum(chance, kind.count, 3), some_sum(chance, kind.count, 2)
                for each in (one, other, (), ONE, half):
                    found = folded(kind, each, which)
                    self.assertIs(is_sum(kind, found), True)
                    self.assertTrue(all(grade % 2 == 0 for grade in grades(found)))
                    self.assertEqual(slow_times(squares, found, half), slow_times(squares, each, half))
                    self.assertEqual(folded(kind, found, which), found)
                product = times(kind, one, other)
                self.assertEqual(folded(kind, product, which),
                                 times(kind, folded(kind, one, which), folded(kind, other, which)))

    def test_by_hand(self):
        kind = Kind([1])
        one = (((), (1, 2)), ((0,), (1, 3)))
        self.assertEqual(folded(kind, one, 0), (((), (5, 6)),))
        self.assertEqual(folded(kind, one, 1), (((), (1, 6)),))
        self.assertEqual(folded(kind, halves(kind)[0], 1), ())

    def test_refused(self):
        for squares, kind in kinds():
            which_ones = (0, 1, 2, -1, 10 ** 39, -10 ** 39)
            for which in which_ones:
                for spoilt in no_sums(kind.count):
                    self.assertRaises(NoSum, folded, kind, spoilt, which)
            if halves(kind) is None:
                for which in which_ones:
                    self.assertRaises(NoHalves, folded, kind, ONE, which)
                    self.assertRaises(NoHalves, folded, kind, (), which)
        for squares, kind in kinds(WITH_HALVES):
            for which in (2, -1, 3, -2, 10 ** 39, -10 ** 39, 2 ** 64):
                self.assertRaises(NoHalves, folded, kind, ONE, which)
                self.assertRaises(NoHalves, folded, kind, (), which)


if __name__ == "__main__":
    unittest.main()
