"""Points 32 and 33."""

import time
import unittest

from helper import (ALL_SQUARES, ONE, all_products, chance_of, full_sum, kinds, row_saying, slow_worth, some_fraction,
                    some_saying, some_sum, step_sum)
from signsteps.errors import NoStep
from signsteps.kinds import Kind
from signsteps.sayings import are_same, is_saying, kept_saying, parts_of, worth
from signsteps.sums import is_sum, times

E0, E1, E2 = ("step", 0), ("step", 1), ("step", 2)
HALF = ("number", (1, 2))
NOUGHT = ("number", (0, 1))


def deep_saying(many):
    """A saying far deeper than Python's calls go."""
    found = E0
    for _ in range(many):
        found = ("times", ("number", (1, 1)), ("back", ("plus", found, NOUGHT)))
    return found


class WorthTest(unittest.TestCase):
    def test_by_hand(self):
        kind = Kind([1, -1, 0])
        for saying, awaited in (
                (HALF, (((), (1, 2)),)), (NOUGHT, ()), (E1, step_sum(1)),
                (("plus", E1, E0), step_sum(0) + step_sum(1)),
                (("times", E1, E0), (((0, 1), (-1, 1)),)), (("times", E0, E1), (((0, 1), (1, 1)),)),
                (("times", E1, E1), (((), (-1, 1)),)), (("times", E2, E2), ()), (("back", E1), step_sum(1)),
                (("back", ("times", E0, E1)), (((0, 1), (-1, 1)),)),
                (("plus", E0, ("times", ("number", (-1, 1)), E0)), ()),
                (("times", ("plus", E0, HALF), ("back", ("times", E0, E1))), (((0, 1), (-1, 2)), ((1,), (-1, 1))))):
            self.assertEqual(worth(kind, saying), awaited)
        self.assertEqual(worth(Kind([]), ("times", HALF, HALF)), (((), (1, 4)),))

    def test_some_sayings(self):
        chance = chance_of("sayings")
        for squares, kind in kinds(ALL_SQUARES):
            for _ in range(2):
                saying = some_saying(chance, kind.count, chance.randint(1, 40), 10, chance.choice((1, 2, 40)))
                found = worth(kind, saying)
                self.assertEqual(found, slow_worth(squares, saying))
                self.assertIs(is_sum(kind, found), True)
                self.assertEqual(worth(kind, saying), found)

    def test_like_terms_are_put_together_as_they_come(self):
        kind = Kind([1, -1, 1, -1, 1])
        row = row_saying("plus", [("step", step) for step in range(4)])
        saying = row_saying("times", [row, row, row, row, row])
        self.assertEqual(parts_of(saying), 39)
        everything = row_saying("plus", [kept_saying(full_sum(chance_of("all"), 5, 40))] * 4)
        begun = time.process_time()
        self.assertEqual(worth(kind, saying), slow_worth(kind.squares, saying))
        worth(kind, row_saying("times", [everything] * 4))
        self.assertLess(time.process_time() - begun, 20)

    def test_no_step(self):
        kind = Kind([1, -1])
        for step in (2, -1, 10 ** 40 - 1, -(10 ** 40) + 1):
            wrong = ("step", step)
            for saying in (wrong, ("plus", E0, wrong), ("times", wrong, ("step", 7)), ("back", wrong),
                           ("times", ("times", E1, ("back", wrong)), ("step", -7)), ("times", NOUGHT, wrong),
                           ("plus", ("plus", E0, E1), ("plus", ("plus", wrong, ("step", 8)), ("step", 9)))):
                with self.assertRaises(NoStep) as caught:
                    worth(kind, saying)
                self.assertEqual(caught.exception.step, step)
        with self.assertRaises(NoStep) as caught:
            worth(Kind([]), ("times", ("number", (3, 1)), E0))
        self.assertEqual(caught.exception.step, 0)

    def test_any_depth(self):
        saying = deep_saying(3000)
        self.assertEqual(worth(Kind([-1]), saying), step_sum(0))
        self.assertEqual(parts_of(saying), 3000 * 5 + 1)
        self.assertIs(is_saying(Kind([-1]), saying), True)
        self.assertIs(is_saying(Kind([]), saying), False)
        self.assertIs(are_same(saying, deep_saying(3000)), True)
        self.assertIs(are_same(saying, ("back", saying)), False)


class PartsTest(unittest.TestCase):
    def test_by_hand(self):
        for saying, many in ((HALF, 1), (E0, 1), (("back", E0), 2), (("plus", E0, E0), 3), (("times", HALF, E1), 3),
                             (("step", -5), 1), (("back", ("times", ("plus", E0, E1), ("back", HALF))), 7)):
            self.assertEqual(parts_of(saying), many)

    def test_some_sayings(self):
        def slow_parts(saying):
            return 1 + sum(slow_parts(inner) for inner in saying[1:] if isinstance(inner, tuple)
                           and isinstance(inner[0], str))

        chance = chance_of("parts")
        for _ in range(300):
            saying = some_saying(chance, 3, chance.randint(1, 40), 10)
            self.assertEqual(parts_of(saying), slow_parts(saying))


class KeptTest(unittest.TestCase):
    def test_by_hand(self):
        self.assertEqual(kept_saying(()), NOUGHT)
        self.assertEqual(kept_saying(ONE), ("number", (1, 1)))
        self.assertEqual(kept_saying((((), (-2, 3)),)), ("number", (-2, 3)))
        self.assertEqual(kept_saying(step_sum(1)), ("times", ("number", (1, 1)), E1))
        self.assertEqual(kept_saying((((0, 2), (1, 2)),)), ("times", HALF, ("times", E0, E2)))
        self.assertEqual(kept_saying((((0, 1, 2), (1, 2)),)), ("times", HALF, ("times", E0, ("times", E1, E2))))
        self.assertEqual(kept_saying((((), (1, 2)), ((1,), (-1, 1)))),
                         ("plus", HALF, ("times", ("number", (-1, 1)), E1)))
        self.assertEqual(kept_saying((((), (1, 2)), ((0, 1), (3, 1)), ((2,), (1, 2)))),
                         ("plus", HALF, ("plus", ("times", ("number", (3, 1)), ("times", E0, E1)),
                                         ("times", HALF, E2))))

    def test_its_worth_is_the_sum(self):
        chance = chance_of("kept")
        for squares, kind in kinds(ALL_SQUARES[::2]):
            for one in (some_sum(chance, kind.count, 40), full_sum(chance, kind.count, 2), (), ONE,
                        ((chance.choice(all_products(kind.count)), some_fraction(chance, 3)),)):
                saying = kept_saying(one)
                self.assertEqual(worth(kind, saying), one)
                self.assertEqual(slow_worth(squares, saying), one)
                awaited = sum(2 * len(product) + 1 for product, fraction in one) + max(len(one) - 1, 0)
                self.assertEqual(parts_of(saying), awaited if one else 1)

    def test_of_what_was_told(self):
        chance = chance_of("told")
        kind = Kind([1, -1, 1, -1, 1])
        one = times(kind, full_sum(chance, 5, 110), full_sum(chance, 5, 110))
        self.assertEqual(worth(kind, kept_saying(one)), one)


class FormTest(unittest.TestCase):
    def test_is_saying(self):
        kind = Kind([1, 0])
        for saying in (HALF, E0, E1, ("plus", E0, HALF), ("times", E0, ("back", E1))):
            self.assertIs(is_saying(kind, saying), True)
        for thing in (E2, ("step", -1), ("step", (1, 2)), ("number", (2, 4)), ("number", (1, 0)), ("number", 1),
                      (1, 2), 0, ("plus", E0), ("plus", E0, E0, E0), ("back", E0, E0), ("back",), (), "step",
                      ("minus", E0, E1), ("times", E0, E2), ("back", ("plus", HALF, ("number", (0, 2)))),
                      ("times", 0, 1), ("back", (1, 2)), ("number", (1, 2), (1, 2)), ("step", 0, 0)):
            self.assertIs(is_saying(kind, thing), False)

    def test_are_same(self):
        chance = chance_of("same")
        sayings = [some_saying(chance, 2, chance.randint(1, 5), 4, 1) for _ in range(120)]
        sayings += [("plus", ("plus", E0, E0), E0), ("plus", E0, ("plus", E0, E0)), ("back", ("back", E0)),
                    ("back", E0)]
        for one in sayings:
            for other in sayings:
                self.assertIs(are_same(one, other), one == other)


if __name__ == "__main__":
    unittest.main()
