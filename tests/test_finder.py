"""Point 36, and the promise of point 4 about papers."""

import time
import unittest

from helper import (ALL_SQUARES, SOME_SQUARES, all_places, chance_of, full_sum, kinds, number_saying, put_at,
                    row_saying, slow_ends, slow_worth, some_fraction, some_saying, some_sum)
from signsteps.errors import NoStep
from signsteps.finder import between, to_kept
from signsteps.kinds import Kind
from signsteps.papers import ends, leads
from signsteps.sayings import are_same, kept_saying, parts_of, worth

E0, E1, E2 = ("step", 0), ("step", 1), ("step", 2)
NOUGHT, ONE, LESS, HALF = [("number", pair) for pair in ((0, 1), (1, 1), (-1, 1), (1, 2))]


def by_hand():
    """Sayings in which noughts, ones, like steps, turned-about sayings and terms that take one another away come up."""
    plus = ("plus", E0, ("times", LESS, E0))
    return [NOUGHT, ONE, HALF, E0, E2, ("back", NOUGHT), ("back", E1), ("back", HALF), ("back", ("back", E0)),
            ("plus", NOUGHT, NOUGHT), ("plus", E0, NOUGHT), ("plus", NOUGHT, E0), ("plus", E1, E0), ("plus", E0, E0),
            ("times", NOUGHT, E0), ("times", E0, NOUGHT), ("times", ONE, ONE), ("times", E0, ONE), ("times", ONE, E0),
            ("times", E0, E0), ("times", E1, E1), ("times", E2, E2), ("times", E1, E0),
            ("times", E2, ("times", E1, E0)), ("times", ("times", E2, E1), ("times", E0, E2)),
            ("times", ("times", E0, E1), ("times", E0, E1)), ("times", ("times", E2, E0), ("times", E2, E1)), plus,
            ("back", plus), ("times", plus, E1), ("times", E1, plus), ("plus", plus, E1), ("plus", E1, plus),
            ("plus", plus, plus), ("times", plus, plus), ("back", ("times", E0, ("times", E1, E2))),
            ("back", ("times", E0, ("plus", E1, ("times", E2, HALF)))), ("plus", ("times", E0, E1), ("times", E1, E0)),
            ("plus", ("plus", E0, HALF), ("plus", ("times", LESS, E0), E1)),
            ("plus", ("plus", E0, E1), ("plus", ("times", LESS, E0), ("times", LESS, E1))),
            ("plus", ("plus", E1, E2), ("times", LESS, ("plus", E2, E1))),
            ("plus", ("plus", HALF, E1), ("plus", ("number", (-1, 2)), E1)), ("plus", ("plus", HALF, E1), HALF),
            ("plus", HALF, ("plus", E1, HALF)), ("times", ("plus", ONE, E0), ("plus", ONE, ("times", LESS, E0))),
            ("times", ("plus", E0, E1), ("plus", E0, E1)), ("times", ("plus", E2, E1), ("plus", E1, E0))]


def wide_saying(chance):
    """A saying of 29 tuples whose terms are very many on the way, with numbers of forty figures."""
    def number():
        return ("number", some_fraction(chance, 40))

    steps = [("step", step) for step in range(5)]
    rows = [[steps[4], steps[2], steps[0]], [steps[3], steps[1], number()], [number(), steps[2], steps[0]],
            [steps[4], steps[3], steps[2]], [steps[1], number(), steps[0]]]
    return row_saying("times", [row_saying("plus", row) for row in rows])


class ToKeptTest(unittest.TestCase):
    def check(self, squares, kind, saying):
        paper = to_kept(kind, saying)
        self.assertIsInstance(paper, list)
        kept = kept_saying(slow_worth(squares, saying))
        self.assertEqual(ends(kind, saying, paper), kept)
        self.assertIs(leads(kind, saying, paper, kept), True)
        return paper

    def test_by_hand(self):
        for squares, kind in kinds([row for row in ALL_SQUARES if len(row) == 3]):
            for saying in by_hand():
                paper = self.check(squares, kind, saying)
                self.assertEqual(slow_ends(squares, saying, paper), kept_saying(slow_worth(squares, saying)))

    def test_some_sayings(self):
        chance = chance_of("to kept")
        for squares, kind in kinds(ALL_SQUARES):
            for _ in range(2):
                saying = some_saying(chance, kind.count, chance.randint(1, 30), 10, chance.choice((1, 2, 40)))
                self.assertLessEqual(parts_of(saying), 30)
                self.check(squares, kind, saying)

    def test_each_step_by_the_documents_words(self):
        chance = chance_of("by the words")
        for squares, kind in kinds():
            for many in (5, 12, 20):
                saying = some_saying(chance, kind.count, many, 7)
                paper = to_kept(kind, saying)
                self.assertEqual(slow_ends(squares, saying, paper), kept_saying(slow_worth(squares, saying)))

    def test_products_of_all_steps(self):
        for squares, kind in kinds([row for row in ALL_SQUARES if len(row) == 5][::7]):
            steps = [("step", step) for step in range(5)]
            for row in (steps, steps[::-1], steps * 2, steps[::-1] + steps,
                        [steps[at] for at in (3, 1, 4, 0, 2, 1, 3)]):
                self.check(squares, kind, row_saying("times", row))
                left = row[0]
                for step in row[1:]:
                    left = ("times", left, step)
                self.check(squares, kind, left)
                self.check(squares, kind, ("back", ("times", row_saying("times", row), HALF)))

    def test_wide_sayings_are_told_soon(self):
        chance = chance_of("wide")
        begun = time.process_time()
        for squares, kind in kinds([[1, -1, 1, -1, 1], [0, 0, 1, -1, 1], [0] * 5]):
            saying = wide_saying(chance)
            self.assertEqual(parts_of(saying), 29)
            self.check(squares, kind, saying)
            is_one, paper = between(kind, saying, ("back", ("back", saying)))
            self.assertIs(is_one, True)
            self.assertIs(leads(kind, saying, paper, ("back", ("back", saying))), True)
        self.assertLess(time.process_time() - begun, 30)

    def test_of_what_was_told(self):
        chance = chance_of("told sayings")
        kind = Kind([1, -1, 0, 1, -1])
        for one in (full_sum(chance, 5, 110), some_sum(chance, 5, 3), ()):
            saying = kept_saying(one)
            self.assertIs(leads(kind, saying, to_kept(kind, saying), saying), True)
        saying = E0
        for _ in range(600):
            saying = ("back", ("times", ONE, saying))
        self.assertIs(leads(kind, saying, to_kept(kind, saying), ("times", ONE, E0)), True)
        is_one, paper = between(kind, E0, saying)
        self.assertIs(is_one, True)
        self.assertIs(are_same(ends(kind, E0, paper), saying), True)

    def test_numbers_that_are_no_steps(self):
        for call in (to_kept, lambda kind, saying: between(kind, saying, E0),
                     lambda kind, saying: between(kind, E0, saying)):
            with self.assertRaises(NoStep) as caught:
                call(Kind([1, -1]), ("times", ("plus", E0, E2), ("step", -1)))
            self.assertEqual(caught.exception.step, 2)

    def test_new_lists_each_time(self):
        kind = Kind([1, -1, 0])
        saying = ("times", E1, E0)
        awaited = to_kept(kind, saying)
        to_kept(kind, saying).clear()
        self.assertEqual(to_kept(kind, saying), awaited)
        is_one, paper = between(kind, saying, saying)
        kept = list(paper)
        paper.clear()
        self.assertEqual(between(kind, saying, saying), (True, kept))


class BetweenTest(unittest.TestCase):
    def check(self, squares, kind, one, other):
        first, second = dict(slow_worth(squares, one)), dict(slow_worth(squares, other))
        found = between(kind, one, other)
        self.assertIsInstance(found, tuple)
        if first == second:
            self.assertIs(found[0], True)
            self.assertIsInstance(found[1], list)
            self.assertIs(leads(kind, one, found[1], other), True)
        else:
            parting = min(product for product in {*first, *second} if first.get(product) != second.get(product))
            self.assertEqual(found, (False, parting))
        return found

    def test_each_two_by_hand(self):
        seen = set()
        for squares, kind in kinds([[1, -1, 0], [-1, -1, 1]]):
            for one in by_hand():
                for other in by_hand():
                    seen.add(self.check(squares, kind, one, other)[0])
        self.assertEqual(seen, {True, False})

    def test_the_first_product_in_which_they_part(self):
        kind = Kind([1, -1, 0])
        for one, other, product in ((E0, E1, (0,)), (E1, E0, (0,)), (HALF, ONE, ()), (HALF, E2, ()), (E2, NOUGHT, (2,)),
                                    (("times", E0, E1), ("times", E1, E0), (0, 1)), (E1, ("times", HALF, E1), (1,)),
                                    (("plus", E0, E1), ("plus", E2, E0), (1,)), (("plus", HALF, E2), HALF, (2,)),
                                    (("times", E0, ("times", E1, E2)), ("times", E0, E2), (0, 1, 2))):
            self.assertEqual(between(kind, one, other), (False, product))
        self.assertEqual(between(Kind([]), ONE, HALF), (False, ()))

    def test_sayings_of_one_worth(self):
        chance = chance_of("one worth")
        for squares, kind in kinds(SOME_SQUARES + ALL_SQUARES[::9]):
            saying = some_saying(chance, kind.count, 20, 7)
            others = [("plus", saying, NOUGHT), ("times", saying, ONE), ("back", ("back", saying)),
                      ("plus", saying, ("times", NOUGHT, saying))]
            for place, inner in all_places(saying):
                if inner[0] == "plus":
                    others.append(put_at(saying, place, ("plus", inner[2], inner[1])))
            for other in others[:6]:
                if parts_of(other) <= 30:
                    self.assertIs(self.check(squares, kind, saying, other)[0], True)

    def test_some_sayings(self):
        chance = chance_of("between")
        for squares, kind in kinds(ALL_SQUARES[::2]):
            one, other = [some_saying(chance, kind.count, chance.randint(1, 30), 10) for _ in range(2)]
            self.check(squares, kind, one, other)
            self.check(squares, kind, one, kept_saying(worth(kind, one)))
            self.check(squares, kind, kept_saying(worth(kind, one)), one)

    def test_papers_keep_the_worth(self):
        chance = chance_of("keep")
        for squares, kind in kinds([[1, -1], [0, 1, -1]]):
            one = some_saying(chance, kind.count, 9, 5, 1)
            is_one, paper = between(kind, one, ("plus", NOUGHT, ("back", ("back", one))))
            self.assertIs(is_one, True)
            saying, awaited = one, slow_worth(squares, one)
            for step in paper:
                saying = ends(kind, saying, [step])
                self.assertEqual(slow_worth(squares, saying), awaited)

    def test_numbers_alone(self):
        self.assertIs(self.check((), Kind([]), ("plus", HALF, HALF), ONE)[0], True)
        self.assertIs(self.check((), Kind([]), NOUGHT, ("plus", number_saying(2), number_saying(-2)))[0], True)


if __name__ == "__main__":
    unittest.main()
