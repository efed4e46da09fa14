"""The sixteen rules of point 34, one saying for one."""

import unittest

from helper import (LOST_NAMES, RULE_SIDES, SOME_SQUARES, all_places, chance_of, fitting_saying, kinds, slow_exchanged,
                    slow_worth, some_saying)
from signsteps.kinds import Kind
from signsteps.rules import exchanged, lost

A, B, C = ("plus", ("step", 0), ("number", (2, 3))), ("back", ("step", 1)), ("times", ("step", 1), ("step", 0))
E0, E1 = ("step", 0), ("step", 1)
HALF, THIRD = ("number", (1, 2)), ("number", (1, 3))
NOUGHT, ONE, LESS = ("number", (0, 1)), ("number", (1, 1)), ("number", (-1, 1))


class RulesTest(unittest.TestCase):
    def both_ways(self, kind, rule, one, other, more=()):
        self.assertEqual(exchanged(kind, one, rule, "there", ()), other)
        self.assertEqual(exchanged(kind, other, rule, "back", more), one)
        self.assertEqual(lost(rule, "there", one), more)
        self.assertEqual(lost(rule, "back", other), ())

    def test_by_hand(self):
        kind = Kind([1, -1, 0])
        for rule, one, other in (
                ("turn", ("plus", A, B), ("plus", B, A)),
                ("move", ("plus", ("plus", A, B), C), ("plus", A, ("plus", B, C))),
                ("join", ("times", ("times", A, B), C), ("times", A, ("times", B, C))),
                ("left", ("times", A, ("plus", B, C)), ("plus", ("times", A, B), ("times", A, C))),
                ("right", ("times", ("plus", A, B), C), ("plus", ("times", A, C), ("times", B, C))),
                ("through", ("times", A, HALF), ("times", HALF, A)),
                ("through", ("times", THIRD, HALF), ("times", HALF, THIRD)),
                ("one", ("times", ONE, A), A), ("one", ("times", ONE, ONE), ONE),
                ("none", ("plus", NOUGHT, B), B), ("none", ("plus", NOUGHT, NOUGHT), NOUGHT),
                ("swap", ("times", E0, E1), ("times", LESS, ("times", E1, E0))),
                ("swap", C, ("times", LESS, ("times", E0, E1))),
                ("over", ("back", ("plus", A, B)), ("plus", ("back", A), ("back", B))),
                ("about", ("back", ("times", A, B)), ("times", ("back", B), ("back", A))),
                ("still", ("back", E0), E0), ("still", ("back", HALF), HALF), ("still", ("back", NOUGHT), NOUGHT)):
            self.both_ways(kind, rule, one, other)
        self.both_ways(kind, "add", ("plus", HALF, THIRD), ("number", (5, 6)), ((1, 2), (1, 3)))
        self.both_ways(kind, "add", ("plus", HALF, ("number", (-1, 2))), NOUGHT, ((1, 2), (-1, 2)))
        self.both_ways(kind, "by", ("times", HALF, ("number", (2, 3))), THIRD, ((1, 2), (2, 3)))
        self.both_ways(kind, "by", ("times", NOUGHT, HALF), NOUGHT, ((0, 1), (1, 2)))
        self.both_ways(kind, "nought", ("times", NOUGHT, A), NOUGHT, (A,))
        for step, square in enumerate(kind.squares):
            self.both_ways(kind, "square", ("times", ("step", step), ("step", step)), ("number", (square, 1)), (step,))

    def test_what_does_not_fit(self):
        kind = Kind([1, -1, 0])
        for rule, way, saying in (
                ("turn", "there", ("times", A, B)), ("move", "there", ("plus", C, ("times", B, C))),
                ("move", "there", ("plus", B, A)), ("join", "back", ("times", C, A)), ("join", "there", ("plus", C, A)),
                ("left", "back", ("plus", ("times", A, B), ("times", B, C))),
                ("left", "there", ("times", ("plus", A, B), C)),
                ("left", "back", ("plus", ("times", A, B), ("times", C, B))), ("right", "there", ("times", C, A)),
                ("right", "back", ("plus", ("times", A, B), ("times", A, C))),
                ("right", "back", ("plus", ("times", A, C), ("plus", B, C))),
                ("add", "there", ("plus", HALF, E0)), ("add", "there", ("plus", E0, HALF)), ("add", "there", HALF),
                ("by", "there", ("times", E0, HALF)), ("by", "there", ("plus", HALF, HALF)),
                ("through", "there", ("times", HALF, A)), ("through", "back", ("times", A, HALF)),
                ("one", "there", ("times", A, ONE)), ("one", "there", ("times", LESS, A)), ("one", "there", ONE),
                ("one", "there", ("plus", ONE, A)), ("none", "there", ("plus", A, NOUGHT)),
                ("none", "there", ("times", NOUGHT, A)), ("nought", "there", ("times", A, NOUGHT)),
                ("nought", "there", ("plus", NOUGHT, A)), ("nought", "there", NOUGHT),
                ("square", "there", ("times", E0, E1)), ("square", "there", ("plus", E0, E0)), ("square", "there", E0),
                ("square", "there", ("times", HALF, HALF)), ("swap", "there", ("times", E0, E0)),
                ("swap", "there", ("times", E0, HALF)), ("swap", "back", ("times", ONE, ("times", E0, E1))),
                ("swap", "back", ("times", LESS, ("times", E0, E0))),
                ("swap", "back", ("times", LESS, ("plus", E0, E1))),
                ("swap", "back", ("times", ("times", E0, E1), LESS)), ("over", "there", ("back", ("times", A, B))),
                ("over", "back", ("plus", ("back", A), C)), ("about", "there", ("back", ("plus", A, B))),
                ("about", "back", ("times", ("back", A), C)), ("about", "back", ("plus", ("back", A), ("back", B))),
                ("still", "there", ("back", A)), ("still", "there", ("back", ("back", E0))), ("still", "there", E0),
                ("still", "back", A), ("still", "back", ("back", E0)), ("back", "there", A), ("", "back", A),
                ("turn", "", ("plus", A, B)), ("turn", "There", ("plus", A, B)), ("Turn", "there", ("plus", A, B))):
            self.assertIsNone(exchanged(kind, saying, rule, way, ()), (rule, way, saying))

    def test_more_that_is_not_as_told(self):
        kind = Kind([1, -1, 0])
        for rule, saying, more in (
                ("add", HALF, ()), ("add", HALF, ((1, 2),)), ("add", HALF, ((1, 4), (1, 4), (0, 1))),
                ("add", HALF, ((1, 2), (1, 2))), ("add", HALF, ((2, 8), (1, 4))), ("add", HALF, ((1, 4), (2, 8))),
                ("add", HALF, (HALF, NOUGHT)), ("add", HALF, (0, 1)), ("add", HALF, ((1, 2), (0, 2))),
                ("add", HALF, ((-1, -2), (0, 1))), ("add", HALF, ((1, 2), 0)), ("add", A, ((1, 2), (0, 1))),
                ("by", HALF, ()), ("by", HALF, ((1, 2),)), ("by", HALF, ((1, 2), (1, 2))),
                ("by", HALF, ((1, 2), (2, 2))),
                ("by", NOUGHT, ((0, 1), (1, 0))), ("by", HALF, (HALF, ONE)), ("by", E0, ((1, 1), (1, 1))),
                ("nought", NOUGHT, ()), ("nought", NOUGHT, (A, B)), ("nought", NOUGHT, (("step", 3),)),
                ("nought", NOUGHT, (("step", -1),)), ("nought", NOUGHT, ((1, 2),)), ("nought", NOUGHT, (0,)),
                ("nought", ONE, (A,)), ("nought", NOUGHT, (("plus", A, ("back", ("step", 9))),)), ("nought", A, (A,)),
                ("square", ONE, ()), ("square", ONE, (1,)), ("square", LESS, (0,)), ("square", NOUGHT, (3,)),
                ("square", ONE, (-3,)), ("square", ONE, (0, 0)), ("square", ONE, (E0,)), ("square", ONE, ((0, 1),)),
                ("square", HALF, (0,)), ("square", E0, (0,))):
            self.assertIsNone(exchanged(kind, saying, rule, "back", more), (rule, saying, more))
        for rule in RULE_SIDES:
            for way in ("there", "back"):
                saying, more = fitting_saying(chance_of(rule), (1, -1, 0), rule, way)
                self.assertIsNotNone(exchanged(kind, saying, rule, way, more))
                for wrong in (more + (0,), more + (A,), more + ((1, 2),), more[1:], more + more):
                    if wrong != more:
                        self.assertIsNone(exchanged(kind, saying, rule, way, wrong), (rule, way, wrong))

    def test_some_sayings_to_which_each_rule_fits(self):
        chance = chance_of("rules")
        for squares, kind in kinds():
            for rule in RULE_SIDES:
                for way in ("there", "back"):
                    for _ in range(6):
                        found = fitting_saying(chance, squares, rule, way)
                        if found is None:
                            continue
                        saying, more = found
                        made = exchanged(kind, saying, rule, way, more)
                        self.assertEqual(made, slow_exchanged(squares, saying, rule, way, more))
                        self.assertIsNotNone(made, (rule, way, saying, more))
                        self.assertEqual(slow_worth(squares, made), slow_worth(squares, saying))
                        other = "back" if way == "there" else "there"
                        told = lost(rule, way, saying)
                        self.assertEqual(len(told), len(LOST_NAMES.get(rule, "")) if way == "there" else 0)
                        self.assertEqual(exchanged(kind, made, rule, other, told), saying)

    def test_some_sayings_of_all_makes(self):
        chance = chance_of("makes")
        fitting = 0
        for squares, kind in kinds():
            for _ in range(8):
                for place, saying in all_places(some_saying(chance, kind.count, 14, 6, 1)):
                    for rule in RULE_SIDES:
                        for way in ("there", "back"):
                            more = chance.choice(((), (), (0,), (1,), (saying,), ((1, 2), (1, 2)), ((0, 1), (1, 1))))
                            awaited = slow_exchanged(squares, saying, rule, way, more)
                            self.assertEqual(exchanged(kind, saying, rule, way, more), awaited)
                            fitting += awaited is not None
        self.assertGreater(fitting, 1000)


if __name__ == "__main__":
    unittest.main()
