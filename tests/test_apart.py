"""Points 18 and 19, and the promise of point 4 about rows of mirrors."""

import copy
import itertools
import time
import unittest
from fractions import Fraction

from helper import (ALL_SQUARES, FULL_SQUARES, ONE, all_products, chance_of, full_sum, kinds, no_sums, slow_dot,
                    slow_times, some_fraction, some_mirror, some_sum, stay, step_sum, table_from, table_of_mirrors,
                    unit_values, values_of)
from signsteps.apart import mirrors_of, taken_apart
from signsteps.errors import NoFull, NoKeep, NoSum, NoTable
from signsteps.kinds import Kind
from signsteps.mirrors import keeps_measure, put_behind, versor_of
from signsteps.partners import partner
from signsteps.sums import is_sum, plus, scaled, sum_of, times
from signsteps.turning import grades, part

EMPTY = [row for row in ALL_SQUARES if not all(row)]


def slanted_table(squares, step, first, second):
    """A table that leads a step to itself less a vector whose measure is nought, of two steps of unlike squares."""
    light = [one + other for one, other in zip(unit_values(len(squares), first), unit_values(len(squares), second))]
    along = unit_values(len(squares), step)
    square = slow_dot(squares, along, along)
    rows = []
    for number in range(len(squares)):
        values = unit_values(len(squares), number)
        by_light, by_along = slow_dot(squares, values, light), slow_dot(squares, values, along)
        rows.append([value + by_light * one - (by_along + Fraction(square, 2) * by_light) * other
                     for value, one, other in zip(values, along, light)])
    return table_from(rows)


def slanted_tables(squares):
    for step, first, second in itertools.permutations(range(len(squares)), 3):
        if squares[first] != squares[second]:
            yield slanted_table(squares, step, first, second)


class TakenApartTest(unittest.TestCase):
    def check(self, squares, kind, table):
        kept = copy.deepcopy(table)
        vectors = taken_apart(kind, table)
        self.assertIsInstance(vectors, list)
        for vector in vectors:
            self.assertIs(is_sum(kind, vector), True)
            self.assertIn(grades(vector), ([1], []))
            values = values_of(kind.count, vector)
            self.assertNotEqual(slow_dot(squares, values, values), 0)
        self.assertEqual(table_of_mirrors(kind, vectors), table)
        self.assertLessEqual(len(vectors), 2 * kind.count)
        if len(set(squares)) < 2:
            self.assertLessEqual(len(vectors), kind.count)
        self.assertEqual(table, kept)
        vectors.append(None)
        self.assertEqual(taken_apart(kind, table), vectors[:-1])

    def test_tables_of_mirrors(self):
        chance = chance_of("apart")
        for squares, kind in kinds(FULL_SQUARES):
            self.check(squares, kind, stay(kind.count))
            for many in (1, 2, 3, 5, 10) if squares else ():
                vectors = [some_mirror(chance, squares, chance.choice((1, 1, 3))) for _ in range(many)]
                self.check(squares, kind, table_of_mirrors(kind, vectors))

    def test_exchanged_steps(self):
        for squares, kind in kinds([row for row in FULL_SQUARES if len(row) < 5] + FULL_SQUARES[31::7]):
            for order in itertools.permutations(range(kind.count)):
                if [squares[step] for step in order] == squares:
                    self.check(squares, kind, table_from([unit_values(kind.count, step) for step in order]))

    def test_turned_signs(self):
        for squares, kind in kinds(FULL_SQUARES):
            for signs in itertools.product((1, -1), repeat=kind.count):
                rows = [[sign * value for value in unit_values(kind.count, step)] for step, sign in enumerate(signs)]
                self.check(squares, kind, table_from(rows))

    def test_differences_whose_measure_is_nought(self):
        many = 0
        for squares, kind in kinds(FULL_SQUARES):
            before = stay(kind.count)
            for table in slanted_tables(squares):
                self.assertIsNone(keeps_measure(kind, table))
                self.check(squares, kind, table)
                before = put_behind(kind, before, table)
                self.check(squares, kind, before)
                many += 1
        self.assertGreater(many, 100)

    def test_the_difference_of_the_first_step(self):
        squares = [1, 1, -1]
        table = slanted_table(squares, 0, 1, 2)
        self.assertEqual(table[0], [(1, 1), (-1, 1), (-1, 1)])
        self.check(squares, Kind(squares), table)

    def test_slanted_tables_and_mirrors(self):
        chance = chance_of("slanted")
        for squares, kind in kinds(FULL_SQUARES[7::2]):
            for table in list(slanted_tables(squares))[::7]:
                mirrors = table_of_mirrors(kind, [some_mirror(chance, squares, 1) for _ in range(2)])
                self.check(squares, kind, put_behind(kind, table, mirrors))
                self.check(squares, kind, put_behind(kind, mirrors, table))

    def test_long_fractions_are_told_soon(self):
        chance = chance_of("long apart")
        begun = time.process_time()
        for squares in ([1, -1, 1, -1, 1], [-1] * 5):
            table = table_of_mirrors(Kind(squares), [some_mirror(chance, squares, 110) for _ in range(6)])
            self.check(squares, Kind(squares), table)
        self.assertLess(time.process_time() - begun, 60)

    def test_refused(self):
        for squares, kind in kinds(EMPTY[::3]):
            place = squares.index(0)
            noughts = [[(0, 1)] * kind.count for _ in range(kind.count)]
            for table in (stay(kind.count), noughts):
                with self.assertRaises(NoFull) as caught:
                    taken_apart(kind, table)
                self.assertEqual(caught.exception.place, place)
            for table, row in ((noughts[1:], kind.count), (noughts[:-1] + [[]], kind.count - 1)):
                with self.assertRaises(NoTable) as caught:
                    taken_apart(kind, table)
                self.assertEqual(caught.exception.row, row)

    def test_tables_that_do_not_keep_the_measure(self):
        chance = chance_of("unkept")
        for squares, kind in kinds(FULL_SQUARES[1:]):
            table = table_of_mirrors(kind, [some_mirror(chance, squares, 1)])
            row, place = chance.randrange(kind.count), chance.randrange(kind.count)
            table[row][place] = (table[row][place][0] + 3 * table[row][place][1], table[row][place][1])
            steps = keeps_measure(kind, table)
            if steps is None:
                continue
            with self.assertRaises(NoKeep) as caught:
                taken_apart(kind, table)
            self.assertEqual(caught.exception.steps, steps)
            with self.assertRaises(NoTable) as caught:
                taken_apart(kind, table + [[]])
            self.assertEqual(caught.exception.row, kind.count)
        with self.assertRaises(NoKeep) as caught:
            taken_apart(Kind([1, -1]), [[(1, 1), (0, 1)], [(1, 1), (1, 1)]])
        self.assertEqual(caught.exception.steps, (0, 1))


class MirrorsOfTest(unittest.TestCase):
    def awaited(self, squares, kind, one):
        """What mirrors_of tells first of all that is wrong, by the words of the document; None for a product."""
        is_there, other = partner(kind, one)
        if not is_there:
            return ("nought",)
        odd = sorted(grade for grade in grades(one) if grade % 2 == 1)
        even = sorted(grade for grade in grades(one) if grade % 2 == 0)
        if odd and even:
            return ("mixed", (even[0], odd[0]))
        for step in range(kind.count):
            found = slow_times(squares, slow_times(squares, one, step_sum(step)), other)
            others = [grade for grade in grades(found) if grade != 1]
            if others:
                return ("step", (step, min(others)))
        return None

    def check(self, squares, kind, one):
        told = mirrors_of(kind, one)
        awaited = self.awaited(squares, kind, one)
        self.assertIsInstance(told, tuple)
        if awaited is None:
            is_there, (number, vectors) = told
            self.assertIs(is_there, True)
            self.assertIsInstance(vectors, list)
            self.assertNotEqual(number[0], 0)
            self.assertEqual(scaled(versor_of(kind, vectors), number), one)
            self.assertIs(is_sum(kind, scaled(ONE, number)), True)
            return "product"
        self.assertIs(told[0], False)
        if awaited == ("nought",):
            self.assertEqual(told[1], "nought")
            self.assertEqual(len(told), 3)
            self.assertIs(is_sum(kind, told[2]), True)
            self.assertNotEqual(told[2], ())
            self.assertEqual(slow_times(squares, one, told[2]), ())
        else:
            self.assertEqual(told, (False, *awaited))
        return awaited[0]

    def test_products_of_vectors(self):
        chance = chance_of("mirrors of")
        for squares, kind in kinds(FULL_SQUARES):
            self.assertEqual(self.check(squares, kind, ONE), "product")
            self.assertEqual(self.check(squares, kind, scaled(ONE, some_fraction(chance, 40))), "product")
            for many in range(1, 7) if squares else ():
                vectors = [some_mirror(chance, squares, 1) for _ in range(many)]
                one = scaled(versor_of(kind, vectors), some_fraction(chance, 3))
                self.assertEqual(self.check(squares, kind, one), "product")

    def test_each_product_of_steps(self):
        for squares, kind in kinds(FULL_SQUARES):
            for product in all_products(kind.count):
                self.assertEqual(self.check(squares, kind, ((product, (-2, 3)),)), "product")

    def test_some_sums(self):
        chance = chance_of("some products")
        told = {}
        for squares, kind in kinds(FULL_SQUARES):
            for share in (0.2, 0.5, 2):
                one = some_sum(chance, kind.count, 1, share)
                even = plus(plus(part(one, 0), part(one, 2)), part(one, 4))
                odd = plus(plus(part(one, 1), part(one, 3)), part(one, 5))
                for each in (one, even, odd):
                    word = self.check(squares, kind, each)
                    told[word] = told.get(word, 0) + 1
        self.assertEqual(set(told), {"product", "nought", "mixed", "step"})
        self.assertGreater(min(told.values()), 20)

    def test_by_hand(self):
        kind = Kind([1, -1, 1, 1, 1])
        rows = [((), "nought", None),
                (plus(ONE, step_sum(0)), "nought", None),
                ((((0,), (1, 1)), ((1,), (1, 1))), "nought", None),
                (plus(ONE, step_sum(1)), "mixed", (0, 1)),
                ((((0, 1), (3, 1)), ((0, 1, 2, 3, 4), (1, 1))), "mixed", (2, 5)),
                ((((), (2, 1)), ((0, 2, 3, 4), (1, 1))), "step", (0, 3)),
                ((((), (2, 1)), ((1, 2, 3, 4), (1, 1))), "step", (1, 3)),
                ((((0, 1), (1, 1)), ((2, 3), (2, 1))), "step", (0, 3))]
        for one, word, shown in rows:
            told = mirrors_of(kind, one)
            self.assertEqual(told[:2], (False, word))
            self.check([1, -1, 1, 1, 1], kind, one)
            if shown is not None:
                self.assertEqual(told[2], shown)

    def test_light_factors(self):
        squares = [1, 1, -1, -1, 1]
        kind = Kind(squares)
        for first, second in ((0, 2), (1, 3), (4, 2)):
            light = sum_of(kind, [((first,), (1, 1)), ((second,), (1, 1))])
            for step in range(5):
                turned = plus(ONE, times(kind, light, step_sum(step)))
                self.check(squares, kind, turned)

    def test_long_fractions_are_told_soon(self):
        chance = chance_of("long mirrors")
        squares = [1, -1, 1, -1, -1]
        kind = Kind(squares)
        begun = time.process_time()
        one = versor_of(kind, [some_mirror(chance, squares, 110) for _ in range(6)])
        is_there, (number, vectors) = mirrors_of(kind, scaled(one, some_fraction(chance, 110)))
        self.assertIs(is_there, True)
        full = full_sum(chance, 5, 110)
        self.assertEqual(mirrors_of(kind, full), (False, "mixed", (0, 1)))
        even = plus(plus(part(full, 0), part(full, 2)), part(full, 4))
        self.assertEqual(mirrors_of(kind, even)[:2], (False, "step"))
        self.assertLess(time.process_time() - begun, 60)

    def test_new_lists_each_time(self):
        kind = Kind([1, -1])
        one = versor_of(kind, [step_sum(0), step_sum(1)])
        told = mirrors_of(kind, one)
        told[1][1].clear()
        self.assertEqual(len(mirrors_of(kind, one)[1][1]), 2)

    def test_refused(self):
        for squares, kind in kinds(EMPTY[::3]):
            for one in (ONE, (), no_sums(kind.count)[0]):
                with self.assertRaises(NoFull) as caught:
                    mirrors_of(kind, one)
                self.assertEqual(caught.exception.place, squares.index(0))
        for squares, kind in kinds(FULL_SQUARES[::5]):
            for spoilt in no_sums(kind.count):
                self.assertRaises(NoSum, mirrors_of, kind, spoilt)


if __name__ == "__main__":
    unittest.main()
