"""Point 17, and the promise of point 4 about products of mirrors."""

import time
import unittest

from helper import (ALL_SQUARES, FULL_SQUARES, ONE, chance_of, kinds, no_sums, slow_times, some_fraction, some_mirror,
                    some_sum, step_sum, table_of_mirrors)
from signsteps.errors import NoMirror, NoSum, NoVector
from signsteps.kinds import Kind
from signsteps.mirrors import alike, versor_of, versor_table
from signsteps.sums import is_sum, plus, scaled, times

WITH_MIRRORS = [row for row in ALL_SQUARES if any(row)]


class VersorTest(unittest.TestCase):
    def test_by_hand(self):
        kind = Kind([1, -1, 1])
        self.assertEqual(versor_of(kind, []), ONE)
        self.assertEqual(versor_of(kind, [step_sum(1)]), step_sum(1))
        self.assertEqual(versor_of(kind, [step_sum(1), step_sum(0)]), (((0, 1), (1, 1)),))
        self.assertEqual(versor_of(kind, [step_sum(0), step_sum(1)]), (((0, 1), (-1, 1)),))
        self.assertEqual(versor_of(Kind([]), []), ONE)

    def test_some_vectors(self):
        chance = chance_of("versors")
        for squares, kind in kinds(WITH_MIRRORS[::2]):
            for many in range(5):
                vectors = [some_mirror(chance, squares, 2) for _ in range(many)]
                kept = list(vectors)
                awaited = ONE
                for vector in vectors:
                    awaited = slow_times(squares, vector, awaited)
                found = versor_of(kind, vectors)
                self.assertEqual(found, awaited)
                self.assertEqual(vectors, kept)
                self.assertEqual(versor_table(kind, found), table_of_mirrors(kind, vectors))

    def test_tables_of_steps(self):
        kind = Kind([1, -1, 0])
        self.assertEqual(versor_table(kind, ONE), table_of_mirrors(kind, []))
        self.assertEqual(versor_table(kind, (((), (-5, 3)),)), table_of_mirrors(kind, []))
        self.assertEqual(versor_table(kind, step_sum(0)),
                         [[(-1, 1), (0, 1), (0, 1)], [(0, 1), (1, 1), (0, 1)], [(0, 1), (0, 1), (1, 1)]])
        self.assertEqual(versor_table(kind, step_sum(1)),
                         [[(1, 1), (0, 1), (0, 1)], [(0, 1), (-1, 1), (0, 1)], [(0, 1), (0, 1), (1, 1)]])
        self.assertEqual(versor_table(Kind([]), ONE), [])

    def test_a_new_table_each_time(self):
        kind = Kind([1, 1])
        table = versor_table(kind, step_sum(0))
        table[0][0] = None
        table[1].append(None)
        self.assertEqual(versor_table(kind, step_sum(0)), [[(-1, 1), (0, 1)], [(0, 1), (1, 1)]])

    def test_many_long_vectors_are_told_soon(self):
        chance = chance_of("many vectors")
        squares = [1, -1, 1, 1, -1]
        kind = Kind(squares)
        begun = time.process_time()
        for many, figures in ((10, 110), (40, 10)):
            vectors = [some_mirror(chance, squares, figures) for _ in range(many)]
            found = versor_of(kind, vectors)
            self.assertIs(is_sum(kind, found), True)
            self.assertEqual(versor_table(kind, found), table_of_mirrors(kind, vectors))
        self.assertLess(time.process_time() - begun, 60)

    def test_refused(self):
        kind = Kind([1, -1, 0])
        good, light = step_sum(0), (((0,), (1, 1)), ((1,), (1, 1)))
        for spoilt in no_sums(3):
            for vectors in ([spoilt], [good, spoilt], [ONE, spoilt], [light, spoilt], [(), good, spoilt]):
                self.assertRaises(NoSum, versor_of, kind, vectors)
            self.assertRaises(NoSum, versor_table, kind, spoilt)
        bivector = (((0, 1), (1, 1)),)
        for vectors, place in (([ONE], 0), ([good, bivector], 1), ([light, good, ONE, bivector], 2),
                               ([(), plus(ONE, good)], 1)):
            with self.assertRaises(NoVector) as caught:
                versor_of(kind, vectors)
            self.assertEqual(caught.exception.place, place)
        for vectors, place in (([()], 0), ([good, light], 1), ([good, good, step_sum(2), light], 2)):
            with self.assertRaises(NoMirror) as caught:
                versor_of(kind, vectors)
            self.assertEqual(caught.exception.place, place)
        self.assertRaises(NoMirror, versor_of, Kind([]), [()])


class AlikeTest(unittest.TestCase):
    def test_multiples(self):
        chance = chance_of("alike")
        for squares, kind in kinds(ALL_SQUARES[1::3]):
            one = some_sum(chance, kind.count, 40) or ONE
            for figures in (1, 110):
                fraction = some_fraction(chance, figures)
                self.assertEqual(alike(kind, scaled(one, fraction), one), fraction)
            self.assertEqual(alike(kind, one, scaled(one, (-3, 2))), (-2, 3))
            self.assertEqual(alike(kind, one, one), (1, 1))

    def test_not_alike(self):
        kind = Kind([1, -1])
        one = (((), (1, 2)), ((0,), (1, 3)), ((0, 1), (2, 1)))
        for other in ((), one[:2], one[1:], (*one, ((1,), (1, 1))), (((), (1, 2)), ((0,), (2, 3)), ((0, 1), (2, 1))),
                      (((), (1, 1)), ((0,), (2, 3)), ((0, 1), (4, 3))), (((), (1, 1)), ((0,), (1, 1)), ((1,), (1, 1))),
                      (((), (-1, 2)), ((0,), (1, 3)), ((0, 1), (2, 1))), ((one[0]), ((1,), (1, 1)))):
            self.assertIsNone(alike(kind, one, other))
            self.assertIsNone(alike(kind, other, one))
        self.assertIsNone(alike(kind, (), ()))
        self.assertIsNone(alike(Kind([]), (), ()))
        self.assertEqual(alike(Kind([]), ONE, (((), (-7, 2)),)), (-2, 7))

    def test_one_fraction_that_does_not_go_along(self):
        chance = chance_of("along")
        for squares, kind in kinds(ALL_SQUARES[4::7]):
            one = some_sum(chance, kind.count, 3, 2)
            for place, (product, fraction) in enumerate(one):
                other = scaled(one, (2, 7))
                other = (*other[:place], (product, fraction), *other[place + 1:])
                self.assertIsNone(alike(kind, one, other))

    def test_no_sums(self):
        kind = Kind([1, -1])
        for spoilt in no_sums(2):
            for one, other in ((spoilt, ONE), (ONE, spoilt), ((), spoilt), (spoilt, ())):
                self.assertRaises(NoSum, alike, kind, one, other)

    def test_the_same_table_just_where_alike(self):
        chance = chance_of("just where")
        told = {True: 0, False: 0}
        for squares, kind in kinds(FULL_SQUARES):
            if not squares:
                continue
            versors = [ONE, scaled(ONE, (-2, 3))]
            for many in (1, 2, 2, 3):
                vectors = [some_mirror(chance, squares, 1) for _ in range(many)]
                versors += [versor_of(kind, vectors), versor_of(kind, [scaled(one, (-5, 2)) for one in vectors])]
            versors.append(versor_of(kind, [step_sum(step) for step in range(kind.count)]))
            tables = [versor_table(kind, versor) for versor in versors]
            for one, table in zip(versors, tables):
                for other, other_table in zip(versors, tables):
                    fraction = alike(kind, one, other)
                    told[fraction is not None] += 1
                    self.assertEqual(table == other_table, fraction is not None)
                    if fraction is not None:
                        self.assertEqual(times(kind, scaled(ONE, fraction), other), one)
        self.assertGreater(min(told.values()), 200)


if __name__ == "__main__":
    unittest.main()
