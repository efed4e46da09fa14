"""Point 5, and points 2 and 3 for kinds."""

import unittest

from helper import ALL_SQUARES
from signsteps.errors import NoCount, NoSquare
from signsteps.kinds import Kind

NO_SQUARES = (2, -2, 3, 10, -10, 10 ** 39, -10 ** 39, 10 ** 40 - 1, 1 - 10 ** 40)


class KindTest(unittest.TestCase):
    def test_each_kind(self):
        self.assertEqual(len(ALL_SQUARES), 1 + 3 + 9 + 27 + 81 + 243)
        for squares in ALL_SQUARES:
            kind = Kind(list(squares))
            self.assertEqual(kind.count, len(squares))
            self.assertIs(type(kind.count), int)
            self.assertEqual(kind.squares, tuple(squares))
            self.assertIs(type(kind.squares), tuple)

    def test_no_steps(self):
        self.assertEqual((Kind([]).count, Kind([]).squares), (0, ()))

    def test_more_than_five(self):
        for many in (6, 7, 12, 40):
            for square in (1, -1, 0):
                with self.subTest(many=many, square=square), self.assertRaises(NoCount):
                    Kind([square] * many)

    def test_more_than_five_goes_ahead_of_no_square(self):
        for wrong in NO_SQUARES:
            for place in range(7):
                squares = [1, -1, 0, 1, -1, 0, 1]
                squares[place] = wrong
                with self.assertRaises(NoCount):
                    Kind(squares)
            with self.assertRaises(NoCount):
                Kind([wrong] * 6)

    def test_no_square_at_each_place(self):
        for count in range(1, 6):
            for place in range(count):
                for wrong in NO_SQUARES:
                    squares = [0, 1, -1, 0, 1][:count]
                    squares[place] = wrong
                    with self.subTest(squares=squares), self.assertRaises(NoSquare) as caught:
                        Kind(squares)
                    self.assertEqual(caught.exception.place, place)

    def test_the_first_of_several(self):
        for first in range(4):
            for second in range(first + 1, 5):
                squares = [1, 0, -1, 1, 0]
                squares[first], squares[second] = 7, -2
                with self.assertRaises(NoSquare) as caught:
                    Kind(squares)
                self.assertEqual(caught.exception.place, first)

    def test_a_truth_is_no_square(self):
        for wrong in (True, False):
            with self.assertRaises(NoSquare) as caught:
                Kind([1, wrong])
            self.assertEqual(caught.exception.place, 1)

    def test_the_list_stays(self):
        for squares in ([], [1], [0, -1, 1], [1, 1, 2], [1] * 6):
            before = list(squares)
            try:
                Kind(squares)
            except (NoCount, NoSquare):
                pass
            self.assertEqual(squares, before)

    def test_a_list_changed_behind_the_call(self):
        squares = [1, -1, 0]
        kind = Kind(squares)
        squares[0] = 0
        squares.append(1)
        self.assertEqual((kind.count, kind.squares), (3, (1, -1, 0)))
        squares.clear()
        self.assertEqual((kind.count, kind.squares), (3, (1, -1, 0)))

    def test_kinds_do_not_touch_one_another(self):
        one, other = Kind([1, 0]), Kind([-1])
        self.assertEqual((one.squares, other.squares), ((1, 0), (-1,)))
        self.assertEqual((one.count, other.count), (2, 1))


if __name__ == "__main__":
    unittest.main()
