"""Points 14 to 16."""

import copy
import time
import unittest

from helper import (ALL_SQUARES, ONE, chance_of, kinds, no_sums, slow_dot, slow_led, slow_mirrored, some_fraction,
                    some_mirror, some_table, some_vector, stay, step_sum, table_from, table_of_mirrors, table_values,
                    unit_values, values_of, vector_from)
from signsteps.errors import NoMirror, NoSum, NoTable, NoVector
from signsteps.kinds import Kind
from signsteps.meeting import dot
from signsteps.mirrors import keeps_measure, led, mirror_table, mirrored, put_behind
from signsteps.partners import partner
from signsteps.sums import is_sum, scaled, times

WITH_MIRRORS = [row for row in ALL_SQUARES if any(row)]
NO_VECTORS = [ONE, (((0, 1), (1, 1)),), (((), (1, 1)), ((0,), (1, 1))), (((0,), (1, 1)), ((0, 1), (1, 1)))]


def spoilt_tables(count):
    """Lists that are no tables of so many steps, and their rows."""
    table = stay(count)
    found = [(table + [[(0, 1)] * count], count)]
    if count:
        found += [(table[1:], count), ([], count), ([[]] * (count + 1), count)]
    for row in range(count):
        found += [(table[:row] + [table[row] + [(0, 1)]] + table[row + 1:], row),
                  (table[:row] + [table[row][1:]] + table[row + 1:], row),
                  (table[:row] + [[]] * (count - row), row)]
    return found


class MirroredTest(unittest.TestCase):
    def test_by_hand(self):
        kind = Kind([1, 1, 0])
        both = (((0,), (1, 1)), ((1,), (1, 1)))
        self.assertEqual(mirrored(kind, step_sum(0), both), (((0,), (-1, 1)), ((1,), (1, 1))))
        self.assertEqual(mirrored(kind, both, step_sum(0)), (((1,), (-1, 1)),))
        self.assertEqual(mirrored(kind, both, step_sum(2)), step_sum(2))
        self.assertEqual(mirrored(kind, (((0,), (1, 1)), ((2,), (1, 2))), step_sum(0)),
                         (((0,), (-1, 1)), ((2,), (-1, 1))))
        self.assertEqual(mirrored(kind, both, ()), ())

    def test_some_vectors(self):
        chance = chance_of("mirrored")
        for squares, kind in kinds(WITH_MIRRORS):
            for figures in (1, 40):
                mirror, other = some_mirror(chance, squares, figures), some_vector(chance, kind.count, figures)
                found = mirrored(kind, mirror, other)
                values = slow_mirrored(squares, values_of(kind.count, mirror), values_of(kind.count, other))
                self.assertEqual(found, vector_from(values))
                self.assertIs(is_sum(kind, found), True)

    def test_what_mirrors_do(self):
        chance = chance_of("mirrors")
        for squares, kind in kinds(WITH_MIRRORS[::3]):
            mirror, other = some_mirror(chance, squares, 110), some_vector(chance, kind.count, 110)
            found = mirrored(kind, mirror, other)
            self.assertEqual(mirrored(kind, mirror, mirror), scaled(mirror, (-1, 1)))
            self.assertEqual(mirrored(kind, mirror, found), other)
            self.assertEqual(dot(kind, found, found), dot(kind, other, other))
            self.assertEqual(mirrored(kind, scaled(mirror, (-7, 3)), other), found)
            carried = times(kind, times(kind, mirror, other), partner(kind, mirror)[1])
            self.assertEqual(scaled(carried, (-1, 1)), found)

    def test_refused(self):
        kind = Kind([1, -1, 0])
        light, good = (((0,), (1, 1)), ((1,), (1, 1))), step_sum(0)
        for spoilt in no_sums(3):
            for one, other in ((spoilt, good), (good, spoilt), (ONE, spoilt), (spoilt, ONE), ((), spoilt)):
                self.assertRaises(NoSum, mirrored, kind, one, other)
        for spoilt in NO_VECTORS:
            for one, other, place in ((spoilt, good, 0), (good, spoilt, 1), (spoilt, spoilt, 0), ((), spoilt, 1),
                                      (light, spoilt, 1)):
                with self.assertRaises(NoVector) as caught:
                    mirrored(kind, one, other)
                self.assertEqual(caught.exception.place, place)
        for spoilt in ((), light, step_sum(2), (((0,), (3, 2)), ((1,), (-3, 2)), ((2,), (1, 5)))):
            for other in (good, (), spoilt):
                with self.assertRaises(NoMirror) as caught:
                    mirrored(kind, spoilt, other)
                self.assertEqual(caught.exception.place, 0)
        self.assertEqual(mirrored(kind, good, light), (((0,), (-1, 1)), ((1,), (1, 1))))
        self.assertRaises(NoMirror, mirrored, Kind([]), (), ())


class TableTest(unittest.TestCase):
    def test_led(self):
        chance = chance_of("led")
        for squares, kind in kinds(ALL_SQUARES[::3]):
            for figures in (1, 110):
                table, vector = some_table(chance, kind.count, figures), some_vector(chance, kind.count, figures)
                kept = copy.deepcopy(table)
                found = led(kind, table, vector)
                self.assertEqual(found, vector_from(slow_led(table_values(table), values_of(kind.count, vector))))
                self.assertIs(is_sum(kind, found), True)
                self.assertEqual(table, kept)
                self.assertEqual(led(kind, table, ()), ())
                self.assertEqual(led(kind, stay(kind.count), vector), vector)

    def test_rows_are_where_steps_are_led(self):
        kind = Kind([1, -1, 0])
        table = [[(1, 2), (0, 1), (3, 1)], [(0, 1), (0, 1), (0, 1)], [(-1, 1), (5, 7), (0, 1)]]
        self.assertEqual(led(kind, table, step_sum(0)), (((0,), (1, 2)), ((2,), (3, 1))))
        self.assertEqual(led(kind, table, step_sum(1)), ())
        self.assertEqual(led(kind, table, (((0,), (2, 1)), ((2,), (1, 1)))), (((1,), (5, 7)), ((2,), (6, 1))))

    def test_mirror_table(self):
        chance = chance_of("mirror tables")
        for squares, kind in kinds(WITH_MIRRORS):
            mirror, other = some_mirror(chance, squares, 3), some_vector(chance, kind.count, 3)
            table = mirror_table(kind, mirror)
            rows = [slow_mirrored(squares, values_of(kind.count, mirror), unit_values(kind.count, step))
                    for step in range(kind.count)]
            self.assertEqual(table, table_from(rows))
            self.assertEqual(led(kind, table, other), mirrored(kind, mirror, other))
            self.assertEqual(put_behind(kind, table, table), stay(kind.count))
            table[0][0] = None
            table.append(None)
            self.assertEqual(mirror_table(kind, mirror), table_from(rows))

    def test_put_behind(self):
        chance = chance_of("behind")
        for squares, kind in kinds(ALL_SQUARES[::3]):
            for figures in (1, 110):
                one, other = some_table(chance, kind.count, figures), some_table(chance, kind.count, figures)
                kept = copy.deepcopy((one, other))
                found = put_behind(kind, one, other)
                values = table_values(other)
                self.assertEqual(found, table_from([slow_led(values, row) for row in table_values(one)]))
                vector = some_vector(chance, kind.count, 2)
                self.assertEqual(led(kind, found, vector), led(kind, other, led(kind, one, vector)))
                for row in found:
                    row.append(None)
                found.append(None)
                self.assertEqual((one, other), kept)
                self.assertEqual(put_behind(kind, one, stay(kind.count)), one)
                self.assertEqual(put_behind(kind, stay(kind.count), one), one)

    def test_the_rows_that_are_told_are_new(self):
        kind = Kind([1, 1])
        table = stay(2)
        found = put_behind(kind, table, table)
        found[0].append(None)
        self.assertEqual(found[1], [(0, 1), (1, 1)])
        self.assertEqual(table, stay(2))

    def test_a_kind_without_steps(self):
        kind = Kind([])
        self.assertEqual(led(kind, [], ()), ())
        self.assertEqual(put_behind(kind, [], []), [])
        self.assertIsNone(keeps_measure(kind, []))
        self.assertRaises(NoMirror, mirror_table, kind, ())

    def test_no_tables(self):
        for squares, kind in kinds():
            good, vector = stay(kind.count), step_sum(0) if kind.count else ()
            for spoilt, row in spoilt_tables(kind.count):
                calls = [(led, (spoilt, vector)), (led, (spoilt, no_sums(kind.count)[0])), (led, (spoilt, ONE)),
                         (put_behind, (spoilt, good)), (put_behind, (good, spoilt)), (keeps_measure, (spoilt,))]
                for call, arguments in calls:
                    with self.assertRaises(NoTable) as caught:
                        call(kind, *arguments)
                    self.assertEqual(caught.exception.row, row)

    def test_the_first_table_first(self):
        kind = Kind([1, -1])
        short, long = [[(1, 1), (0, 1)], [(1, 1)]], [[(1, 1), (0, 1)]] * 3
        for one, other, row in ((short, long, 1), (long, short, 2), (short, [[], []], 1), ([[], []], short, 0)):
            with self.assertRaises(NoTable) as caught:
                put_behind(kind, one, other)
            self.assertEqual(caught.exception.row, row)

    def test_no_sums_and_no_vectors(self):
        kind = Kind([1, -1, 0])
        for spoilt in no_sums(3):
            self.assertRaises(NoSum, led, kind, stay(3), spoilt)
            self.assertRaises(NoSum, mirror_table, kind, spoilt)
        for spoilt in NO_VECTORS:
            for call, arguments in ((led, (stay(3), spoilt)), (mirror_table, (spoilt,))):
                with self.assertRaises(NoVector) as caught:
                    call(kind, *arguments)
                self.assertEqual(caught.exception.place, 0)
        for spoilt in ((), step_sum(2), (((0,), (1, 1)), ((1,), (-1, 1)))):
            with self.assertRaises(NoMirror) as caught:
                mirror_table(kind, spoilt)
            self.assertEqual(caught.exception.place, 0)


class KeepsMeasureTest(unittest.TestCase):
    def first_unkept(self, squares, table):
        rows = table_values(table)
        for first in range(len(squares)):
            for second in range(first, len(squares)):
                if slow_dot(squares, rows[first], rows[second]) != (squares[first] if first == second else 0):
                    return (first, second)
        return None

    def test_tables_of_mirrors(self):
        chance = chance_of("keeping")
        for squares, kind in kinds(WITH_MIRRORS[::2]):
            table = stay(kind.count)
            for _ in range(3):
                self.assertIsNone(keeps_measure(kind, table))
                table = put_behind(kind, table, mirror_table(kind, some_mirror(chance, squares, 2)))
            self.assertIsNone(keeps_measure(kind, table))

    def test_spoilt_tables(self):
        chance = chance_of("spoilt")
        told = set()
        for squares, kind in kinds(WITH_MIRRORS):
            table = mirror_table(kind, some_mirror(chance, squares, 1))
            for row in range(kind.count):
                for place in range(kind.count):
                    spoilt = copy.deepcopy(table)
                    spoilt[row][place] = some_fraction(chance, 1)
                    found = keeps_measure(kind, spoilt)
                    self.assertEqual(found, self.first_unkept(squares, spoilt))
                    told.add(found)
        self.assertIn(None, told)
        self.assertIn((3, 4), told)
        self.assertIn((4, 4), told)

    def test_some_tables(self):
        chance = chance_of("some tables")
        for squares, kind in kinds(ALL_SQUARES[::2]):
            table = some_table(chance, kind.count, 1)
            kept = copy.deepcopy(table)
            self.assertEqual(keeps_measure(kind, table), self.first_unkept(squares, table))
            self.assertEqual(table, kept)

    def test_by_hand(self):
        kind = Kind([1, 0, -1])
        self.assertEqual(keeps_measure(kind, [[(0, 1)] * 3] * 3), (0, 0))
        double = [[(1, 1), (0, 1), (0, 1)], [(0, 1), (2, 1), (0, 1)], [(0, 1), (0, 1), (2, 1)]]
        self.assertEqual(keeps_measure(kind, double), (2, 2))
        slanted = [[(1, 1), (5, 1), (0, 1)], [(0, 1), (7, 2), (0, 1)], [(0, 1), (1, 3), (-1, 1)]]
        self.assertIsNone(keeps_measure(kind, slanted))
        led_astray = [[(1, 1), (0, 1), (0, 1)], [(1, 1), (1, 1), (1, 1)], [(0, 1), (0, 1), (1, 1)]]
        self.assertEqual(keeps_measure(kind, led_astray), (0, 1))

    def test_long_fractions_are_told_soon(self):
        chance = chance_of("long tables")
        squares = [1, -1, 1, 1, -1]
        kind = Kind(squares)
        begun = time.process_time()
        table = table_of_mirrors(kind, [some_mirror(chance, squares, 110) for _ in range(10)])
        self.assertIsNone(keeps_measure(kind, table))
        self.assertLess(time.process_time() - begun, 30)


if __name__ == "__main__":
    unittest.main()
