"""Points 26 to 30, and the promise of point 4 about boards."""

import copy
import itertools
import time
import unittest
from fractions import Fraction

from helper import (ALL_SQUARES, FULL_SQUARES, ONE, all_products, board_fractions, chance_of, changed_by, full_sum,
                    kinds, no_sums, pair, slow_board_of, slow_board_times, slow_order, slow_unit, some_fraction,
                    some_shears, some_sum, step_sum, table_from, table_values)
from signsteps.boards import blind, board_fault, board_of, boards_for, size_of, sum_from
from signsteps.errors import NoBoards, NoFull, NoSum
from signsteps.kinds import Kind
from signsteps.owns import own_table
from signsteps.sums import is_sum, plus, scaled, times

WITH_BOARDS = [row for row in FULL_SQUARES if row]
WITHOUT_BOARDS = [row for row in ALL_SQUARES if not row or 0 in row]
SMALL = ((1, 1), (-1, 1), (1, 2), (-2, 3))


def slow_fault(squares, boards):
    values = [table_values(board) for board in boards]
    unit = slow_unit(len(boards[0]))
    for step, board in enumerate(values):
        if slow_board_times(board, board) != [[squares[step] * value for value in row] for row in unit]:
            return ("square", step)
    for first, second in itertools.combinations(range(len(boards)), 2):
        turned = [[-value for value in row] for row in slow_board_times(values[second], values[first])]
        if slow_board_times(values[first], values[second]) != turned:
            return ("turn", first, second)
    return None


def everything(squares):
    return tuple(range(len(squares)))


def can_be_blind(squares):
    """Whether the product of all steps stands beside all and has the square 1."""
    return len(squares) % 2 == 1 and slow_order(squares, everything(squares) * 2)[0] == 1


def blind_boards(squares, sign):
    """Boards for which that of all steps' product is the board of 1, or less it."""
    if len(squares) == 1:
        return [[[(sign, 1)]]]
    boards = boards_for(Kind(squares[:-1]))
    others = slow_board_of(boards, ((everything(squares[:-1]), (sign * squares[-1], 1)),))
    return boards + [others]


def side_by_side(one, other):
    """The boards with the one's above, on the left, and the other's below, on the right."""
    first, second = len(one[0]), len(other[0])
    return [[row + [(0, 1)] * second for row in a] + [[(0, 1)] * first + row for row in b] for a, b in zip(one, other)]


def uneven_boards(squares, many):
    """Boards for which that of all steps' product has the trace neither nought nor, but for a sign, the size."""
    boards = blind_boards(squares, 1)
    for place in range(many - 1):
        boards = side_by_side(boards, blind_boards(squares, -1 if place == 0 else 1))
    return boards


def is_in_span(rows, row):
    """Whether a row of Python's fractions is a sum of multiples of rows."""
    rows, row = [list(other) for other in rows], list(row)
    for place in range(len(row)):
        leading = next((other for other in rows if other[place]), None)
        if leading is None:
            continue
        rows.remove(leading)
        for other in [*rows, row]:
            by = other[place] / leading[place]
            for at in range(len(row)):
                other[at] -= by * leading[at]
    return not any(row)


def spoilt(chance, boards):
    """Boards with one fraction exchanged, two boards exchanged, one board twice, or a board's sign turned."""
    found = copy.deepcopy(boards)
    which = chance.randrange(4)
    first, second = chance.randrange(len(boards)), chance.randrange(len(boards))
    if which == 0:
        row = chance.choice(found[first])
        row[chance.randrange(len(row))] = chance.choice([(1, 1), (-1, 1), (0, 1), (1, 2), some_fraction(chance, 110)])
    elif which == 1:
        found[first], found[second] = found[second], found[first]
    elif which == 2:
        found[first] = copy.deepcopy(found[second])
    else:
        found[first] = [[(-top, bottom) for top, bottom in row] for row in found[first]]
    return found


class FaultTest(unittest.TestCase):
    def test_by_hand(self):
        o, i, j = (0, 1), (1, 1), (-1, 1)
        x, y, z = [[o, i], [i, o]], [[o, j], [i, o]], [[i, o], [o, j]]
        self.assertIsNone(board_fault(Kind([1]), [[[i]]]))
        self.assertIsNone(board_fault(Kind([1]), [[[j]]]))
        self.assertEqual(board_fault(Kind([-1]), [[[i]]]), ("square", 0))
        self.assertIsNone(board_fault(Kind([1, -1]), [x, y]))
        self.assertIsNone(board_fault(Kind([1, -1, 1]), [x, y, z]))
        self.assertEqual(board_fault(Kind([1, 1]), [x, y]), ("square", 1))
        self.assertEqual(board_fault(Kind([-1, 1]), [x, y]), ("square", 0))
        self.assertEqual(board_fault(Kind([1, 1]), [x, x]), ("turn", 0, 1))
        self.assertEqual(board_fault(Kind([1, 1, -1]), [x, z, x]), ("square", 2))
        self.assertEqual(board_fault(Kind([1, 1, 1]), [x, z, x]), ("turn", 0, 2))
        self.assertEqual(board_fault(Kind([1, 1, 1]), [z, x, x]), ("turn", 1, 2))
        self.assertEqual(board_fault(Kind([1]), [[[i, (1, 2)], [o, i]]]), ("square", 0))
        self.assertIsNone(board_fault(Kind([1]), [[[i, (1, 2)], [o, j]]]))

    def test_spoilt_boards(self):
        chance = chance_of("spoilt boards")
        faults = set()
        for squares, kind in kinds(WITH_BOARDS):
            boards = boards_for(kind)
            for _ in range(4 if kind.count > 3 else 10):
                wrong = spoilt(chance, boards)
                awaited = slow_fault(squares, wrong)
                faults.add(awaited)
                self.assertEqual(board_fault(kind, wrong), awaited)
        self.assertLessEqual({None, ("square", 0), ("square", 2), ("turn", 0, 1), ("turn", 0, 2), ("turn", 1, 2)},
                             faults)

    def test_other_boards_without_a_fault(self):
        chance = chance_of("other boards")
        for squares, kind in kinds(WITH_BOARDS[::3]):
            boards = boards_for(kind)
            size = len(boards[0])
            for changed in (changed_by(boards, some_shears(chance, size, size, SMALL)),
                            changed_by(boards, some_shears(chance, size, 1, [some_fraction(chance, 50)]))):
                self.assertIsNone(board_fault(kind, changed))
                wrong = spoilt(chance, changed)
                self.assertEqual(board_fault(kind, wrong), slow_fault(squares, wrong))
        for squares, kind in kinds([row for row in WITH_BOARDS if len(row) < 5]):
            self.assertIsNone(board_fault(kind, [own_table(kind, step_sum(step)) for step in range(kind.count)]))

    def test_boards_of_long_fractions_are_told_soon(self):
        chance = chance_of("long boards")
        kind = Kind([1] * 5)
        boards = changed_by(boards_for(kind), [(i, i + 8, Fraction(*some_fraction(chance, 50))) for i in range(8)])
        noise = [[[some_fraction(chance, 110) for _ in range(16)] for _ in range(16)] for _ in range(5)]
        begun = time.process_time()
        self.assertIsNone(board_fault(kind, boards))
        self.assertEqual(board_fault(kind, noise), ("square", 0))
        self.assertEqual(board_fault(kind, boards[:4] + noise[:1]), ("square", 4))
        self.assertLess(time.process_time() - begun, 10)

    def test_no_full_goes_first(self):
        for squares, kind in kinds(WITHOUT_BOARDS):
            for call in (lambda kind: board_fault(kind, []), lambda kind: board_of(kind, [], no_sums(5)[0]),
                         lambda kind: blind(kind, [[]]), lambda kind: sum_from(kind, [], []), size_of, boards_for):
                with self.assertRaises(NoFull) as caught:
                    call(kind)
                self.assertEqual(caught.exception.place, squares.index(0) if squares else -1)

    def test_no_boards(self):
        for squares, kind in kinds(WITH_BOARDS[::2]):
            boards = boards_for(kind)
            size = len(boards[0])
            # A single board cannot have another size than the others.
            unit = table_from(slow_unit(size + 1 if kind.count > 1 else 17))
            wide = [board[:-1] + [board[-1] + [(0, 1)]] for board in boards]
            short = [board[:-1] + [board[-1][:-1]] for board in boards]
            for wrong in ([], boards[1:], boards + boards[:1], boards[:-1] + [unit], [[] for _ in boards],
                          [table_from(slow_unit(17)) for _ in boards], [board[1:] for board in boards],
                          boards[:-1] + [boards[-1][1:]], wide, short, boards[:-1] + wide[-1:],
                          boards[:-1] + short[-1:], [[[] for _ in board] for board in boards]):
                for call in (lambda wrong: board_fault(kind, wrong), lambda wrong: board_of(kind, wrong, ONE),
                             lambda wrong: board_of(kind, wrong, no_sums(5)[0]), lambda wrong: blind(kind, wrong),
                             lambda wrong: sum_from(kind, wrong, table_from(slow_unit(size)))):
                    self.assertRaises(NoBoards, call, wrong)

    def test_lists_of_other_things(self):
        for wrong in ([1], [(1, 1)], [None], [[1]], [[(1, 1)]], [[None]], [[[1]]], [[[None]]], [[[[(1, 1)]]]]):
            self.assertRaises(NoBoards, board_fault, Kind([1]), wrong)
        for wrong in ([1], [(1, 1)], [None], [[1]], [[None]], [[[(1, 1)]]]):
            self.assertRaises(NoBoards, sum_from, Kind([1]), [[[(1, 1)]]], wrong)

    def test_tuples_that_are_no_fractions(self):
        for wrong in ((2, 2), (0, 3), (1, 0), (-1, -1)):
            self.assertRaises(NoBoards, board_fault, Kind([1]), [[[wrong]]])
            self.assertRaises(NoBoards, sum_from, Kind([1]), [[[(1, 1)]]], [[wrong]])
        long = (3 ** 2000, 2 ** 4000)
        self.assertRaises(NoBoards, board_fault, Kind([1]), [[[long, (0, 5)], [(1, 1), (1, 1)]]])
        self.assertEqual(board_fault(Kind([1]), [[[long, (0, 1)], [(1, 1), (1, 1)]]]), ("square", 0))


class BoardOfTest(unittest.TestCase):
    def test_by_hand(self):
        kind = Kind([1, -1])
        boards = [[[(0, 1), (1, 1)], [(1, 1), (0, 1)]], [[(0, 1), (-1, 1)], [(1, 1), (0, 1)]]]
        one = (((), (1, 2)), ((0,), (2, 1)), ((0, 1), (3, 1)), ((1,), (-1, 3)))
        self.assertEqual(board_of(kind, boards, one), [[(7, 2), (7, 3)], [(5, 3), (-5, 2)]])
        self.assertEqual(board_of(kind, boards, ()), [[(0, 1), (0, 1)], [(0, 1), (0, 1)]])
        self.assertEqual(board_of(kind, boards, ONE), [[(1, 1), (0, 1)], [(0, 1), (1, 1)]])

    def test_against_the_products_of_the_boards(self):
        chance = chance_of("boards of sums")
        for squares, kind in kinds(WITH_BOARDS):
            boards = boards_for(kind)
            size = len(boards[0])
            for step in range(kind.count):
                self.assertEqual(board_of(kind, boards, step_sum(step)), boards[step])
            changed = changed_by(boards, some_shears(chance, size, 3, SMALL)) if size < 16 else boards
            for one in (some_sum(chance, kind.count, 2), ((chance.choice(all_products(kind.count)), (-2, 7)),), ()):
                self.assertEqual(board_of(kind, changed, one), slow_board_of(changed, one))
        for squares, kind in kinds(WITH_BOARDS[:14]):
            one = full_sum(chance, kind.count, 110)
            boards = boards_for(kind)
            boards = changed_by(boards, some_shears(chance, len(boards[0]), 1, [some_fraction(chance, 50)]))
            self.assertEqual(board_of(kind, boards, one), slow_board_of(boards, one))

    def test_goes_with_products_and_sums(self):
        chance = chance_of("products of boards")
        for squares, kind in kinds(WITH_BOARDS):
            boards = boards_for(kind)
            one, other = some_sum(chance, kind.count, 2), some_sum(chance, kind.count, 2)
            first, second = [table_values(board_of(kind, boards, sum_)) for sum_ in (one, other)]
            self.assertEqual(table_values(board_of(kind, boards, times(kind, one, other))),
                             slow_board_times(first, second))
            self.assertEqual(table_values(board_of(kind, boards, plus(one, other))),
                             [[a + b for a, b in zip(row, line)] for row, line in zip(first, second)])
            self.assertEqual(board_of(kind, boards, ONE), table_from(slow_unit(len(boards[0]))))

    def test_long_sums_are_told_soon(self):
        chance = chance_of("long sums")
        kind = Kind([-1, 1, -1, -1, -1])
        boards = boards_for(kind)
        begun = time.process_time()
        one = times(kind, full_sum(chance, 5, 110), full_sum(chance, 5, 110))
        self.assertEqual(sum_from(kind, boards, board_of(kind, boards, one)), one)
        self.assertLess(time.process_time() - begun, 20)

    def test_what_is_refused(self):
        for squares, kind in kinds(WITH_BOARDS[::5]):
            boards = boards_for(kind)
            for wrong in no_sums(kind.count):
                self.assertRaises(NoSum, board_of, kind, boards, wrong)
            wrong = [[[(2, 1)] * len(boards[0]) for _ in boards[0]] for _ in boards]
            for one in (ONE, (), no_sums(kind.count)[0]):
                self.assertRaises(NoBoards, board_of, kind, wrong, one)
            self.assertRaises(NoBoards, blind, kind, wrong)
            self.assertRaises(NoBoards, sum_from, kind, wrong, boards[0])

    def test_boards_stay_and_lists_are_new(self):
        for squares, kind in kinds([[1], [1, -1], [-1, -1, -1]]):
            boards = boards_for(kind)
            kept = copy.deepcopy(boards)
            board = board_of(kind, boards, step_sum(0))
            board_fault(kind, boards), blind(kind, boards), sum_from(kind, boards, board)
            self.assertEqual((boards, board), (kept, kept[0]))
            board[0][0] = None
            board[1].clear()
            self.assertEqual(boards, kept)
            self.assertEqual(board_of(kind, boards, step_sum(0)), kept[0])
            nought = board_of(kind, boards, ())
            nought[0][0] = (5, 1)
            self.assertEqual(nought[1], [(0, 1)] * len(nought))


class BlindTest(unittest.TestCase):
    def check_blind(self, kind, boards):
        self.assertIsNone(board_fault(kind, boards))
        one = blind(kind, boards)
        self.assertIs(is_sum(kind, one), True)
        self.assertNotEqual(one, ())
        self.assertEqual(set(board_fractions([slow_board_of(boards, one)])), {(0, 1)})

    def test_by_hand(self):
        for sign in (1, -1):
            self.check_blind(Kind([1]), [[[(sign, 1)]]])
            self.check_blind(Kind([1]), [[[(sign, 1), (0, 1)], [(0, 1), (sign, 1)]]])
        self.assertIsNone(blind(Kind([1]), [[[(1, 1), (0, 1)], [(0, 1), (-1, 1)]]]))
        self.assertIsNone(blind(Kind([1]), [[[(1, 1), (5, 3)], [(0, 1), (-1, 1)]]]))
        self.assertIsNone(blind(Kind([-1]), [[[(0, 1), (1, 1)], [(-1, 1), (0, 1)]]]))

    def test_of_each_kind(self):
        chance = chance_of("blind")
        some_blind = 0
        for squares, kind in kinds(WITH_BOARDS):
            self.assertIsNone(blind(kind, boards_for(kind)))
            if can_be_blind(squares):
                for sign in (1, -1):
                    boards = blind_boards(squares, sign)
                    self.check_blind(kind, boards)
                    size = len(boards[0])
                    self.check_blind(kind, changed_by(boards, some_shears(chance, size, 2, SMALL)))
                    some_blind += 1
                self.assertIsNone(blind(kind, uneven_boards(squares, 2)))
        self.assertEqual(some_blind, 2 * sum(map(can_be_blind, WITH_BOARDS)))
        self.assertGreater(some_blind, 20)

    def test_uneven_boards(self):
        chance = chance_of("uneven")
        for squares, kind in kinds([row for row in WITH_BOARDS if can_be_blind(row)]):
            boards = uneven_boards(squares, 3)
            size = len(boards[0])
            if size <= 16:
                self.assertIsNone(blind(kind, boards))
                boards = changed_by(boards, some_shears(chance, size, 2, SMALL))
                self.assertIsNone(blind(kind, boards))
                one = some_sum(chance, kind.count, 2)
                self.assertEqual(sum_from(kind, boards, board_of(kind, boards, one)), one)


class SumFromTest(unittest.TestCase):
    def test_leads_back(self):
        chance = chance_of("sum from")
        for squares, kind in kinds(WITH_BOARDS):
            boards = boards_for(kind)
            size = len(boards[0])
            changed = changed_by(boards, some_shears(chance, size, 3, SMALL)) if size < 16 else boards
            for one in (some_sum(chance, kind.count, 2), full_sum(chance, kind.count, 3), step_sum(0), ONE, ()):
                for told in (boards, changed):
                    self.assertEqual(sum_from(kind, told, slow_board_of(told, one)), one)

    def test_where_blind(self):
        chance = chance_of("blind sums")
        for squares, kind in kinds([row for row in WITH_BOARDS if can_be_blind(row)]):
            boards = blind_boards(squares, chance.choice((1, -1)))
            boards = changed_by(boards, some_shears(chance, len(boards[0]), 2, SMALL))
            for one in (some_sum(chance, kind.count, 2), ((everything(squares), (3, 1)),), ONE, ()):
                board = slow_board_of(boards, one)
                found = sum_from(kind, boards, board)
                self.assertIs(is_sum(kind, found), True)
                self.assertEqual(slow_board_of(boards, found), board)

    def test_boards_that_no_sum_has(self):
        chance = chance_of("no sum")
        seen = set()
        for squares, kind in kinds([row for row in WITH_BOARDS if len(row) < 4]):
            for boards in (boards_for(kind), *([blind_boards(squares, -1)] if can_be_blind(squares) else [])):
                size = len(boards[0])
                if size > 4:
                    continue
                rows = [sum(table_values(slow_board_of(boards, ((product, (1, 1)),))), [])
                        for product in all_products(kind.count)]
                for _ in range(6):
                    board = slow_board_of(boards, some_sum(chance, kind.count, 1))
                    board[chance.randrange(size)][chance.randrange(size)] = chance.choice(SMALL)
                    found = sum_from(kind, boards, board)
                    seen.add(found is None)
                    self.assertEqual(found is not None, is_in_span(rows, sum(table_values(board), [])))
                    if found is not None:
                        self.assertEqual(slow_board_of(boards, found), board)
        self.assertEqual(seen, {True, False})
        self.assertIsNone(sum_from(Kind([1]), boards_for(Kind([1])), [[(0, 1), (1, 1)], [(0, 1), (0, 1)]]))
        for squares, kind in kinds([[1] * 5, [1, -1, 1, -1, -1]]):
            boards = boards_for(kind)
            size = len(boards[0])
            noise = [[some_fraction(chance, 110) for _ in range(size)] for _ in range(size)]
            self.assertIsNone(sum_from(kind, boards, noise))

    def test_boards_of_another_size(self):
        for squares, kind in kinds(WITH_BOARDS[::4]):
            boards = boards_for(kind)
            unit = table_from(slow_unit(len(boards[0])))
            for wrong in ([], unit[1:], [row[1:] for row in unit], table_from(slow_unit(len(unit) + 1)),
                          unit[:-1] + [unit[-1][:-1]], unit[:-1] + [unit[-1] + [(0, 1)]], unit + unit[:1]):
                self.assertRaises(NoBoards, sum_from, kind, boards, wrong)
            self.assertEqual(sum_from(kind, boards, unit), ONE)

    def test_what_was_handed_in_stays(self):
        kind = Kind([1, -1])
        boards, board = boards_for(kind), board_of(kind, boards_for(kind), scaled(ONE, (2, 3)))
        kept = copy.deepcopy((boards, board))
        self.assertEqual(sum_from(kind, boards, board), scaled(ONE, (2, 3)))
        self.assertEqual((boards, board), kept)


class BoardsForTest(unittest.TestCase):
    def awaited_size(self, squares):
        many, rest = len(squares), (squares.count(1) - squares.count(-1)) % 8
        twice = {0: many, 2: many, 4: many + 2, 6: many + 2, 1: many + 1, 3: many + 1, 7: many + 1, 5: many + 3}[rest]
        self.assertEqual(twice % 2, 0)
        return 2 ** (twice // 2)

    def test_each_kind(self):
        for squares, kind in kinds(WITH_BOARDS):
            boards = boards_for(kind)
            size = self.awaited_size(squares)
            self.assertEqual(size_of(kind), size)
            self.assertEqual(len(boards), kind.count)
            for board in boards:
                self.assertEqual([len(row) for row in board], [size] * size)
                for line in [*board, *zip(*board)]:
                    self.assertIn(sorted(line), [sorted([(0, 1)] * (size - 1) + [(sign, 1)]) for sign in (1, -1)])
            self.assertIsNone(board_fault(kind, boards))
            self.assertIsNone(slow_fault(squares, boards))
            self.assertIsNone(blind(kind, boards))
            self.assertEqual(boards_for(Kind(squares)), boards)

    def test_sizes_by_hand(self):
        for squares, size in (([1], 2), ([-1], 2), ([1, 1], 2), ([1, -1], 2), ([-1, -1], 4), ([1] * 3, 4),
                              ([-1] * 3, 8), ([1] * 4, 8), ([-1] * 4, 8), ([1, -1, 1, -1], 4),
                              ([1] * 5, 16), ([-1] * 5, 8),
                              ([1, -1, -1, -1, -1], 16), ([1, 1, 1, -1, -1], 8)):
            self.assertEqual((size_of(Kind(squares)), len(boards_for(Kind(squares))[0])), (size, size))

    def test_new_lists_each_time(self):
        kind = Kind([1, -1, -1])
        awaited = copy.deepcopy(boards_for(kind))
        boards = boards_for(kind)
        boards[0][0][0] = None
        boards[1][2].clear()
        boards[2].clear()
        self.assertEqual(len({id(row) for board in boards_for(kind) for row in board}), 3 * size_of(kind))
        self.assertEqual(boards_for(kind), awaited)

    def test_no_two_sums_have_one_board(self):
        chance = chance_of("no two")
        for squares, kind in kinds(WITH_BOARDS[::7]):
            boards = boards_for(kind)
            for product in all_products(kind.count):
                one = ((product, pair(Fraction(3, 5))),)
                self.assertEqual(sum_from(kind, boards, slow_board_of(boards, one)), one)
                other = plus(one, some_sum(chance, kind.count, 1))
                self.assertEqual(sum_from(kind, boards, board_of(kind, boards, other)), other)


if __name__ == "__main__":
    unittest.main()
