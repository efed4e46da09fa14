"""Points 34 and 35: steps of papers, and the looker."""

import copy
import unittest

from helper import (RULE_SIDES, all_places, chance_of, fitting_saying, kinds, number_saying, put_at, row_saying,
                    slow_stepped, slow_worth, some_saying)
from signsteps.errors import BadStep
from signsteps.kinds import Kind
from signsteps.papers import ends, leads, stepped
from signsteps.sayings import are_same, parts_of, worth

E0, E1 = ("step", 0), ("step", 1)
ONE, HALF = number_saying(1), ("number", (1, 2))
WAYS = ("there", "back")


def wrapped(saying):
    """The saying in others, with its place there."""
    return [((), saying), ((0,), ("back", saying)), ((0,), ("plus", saying, E0)), ((1,), ("times", E0, saying)),
            ((1, 0, 0, 1), ("plus", HALF, ("times", ("back", ("plus", ONE, saying)), E0))),
            ((0, 0, 0, 0, 0, 1, 1, 0), ("times", ("back", ("back", ("plus", ("back", ("times", E0, (
                "plus", HALF, ("back", saying)))), HALF))), E0))]


class SteppedTest(unittest.TestCase):
    def refused(self, kind, saying, step):
        with self.assertRaises(BadStep) as caught:
            stepped(kind, saying, step)
        self.assertEqual(caught.exception.at, 0)
        with self.assertRaises(BadStep) as caught:
            ends(kind, saying, [step])
        self.assertEqual(caught.exception.at, 0)
        self.assertIs(leads(kind, saying, [step], saying), False)

    def test_by_hand(self):
        kind = Kind([1, -1])
        saying = ("times", E1, ("plus", E0, HALF))
        self.assertEqual(stepped(kind, saying, ((), "left", "there", ())),
                         ("plus", ("times", E1, E0), ("times", E1, HALF)))
        self.assertEqual(stepped(kind, saying, ((1,), "turn", "there", ())), ("times", E1, ("plus", HALF, E0)))
        self.assertEqual(stepped(kind, saying, ((1, 1), "add", "back", ((1, 3), (1, 6)))),
                         ("times", E1, ("plus", E0, ("plus", ("number", (1, 3)), ("number", (1, 6))))))
        self.assertEqual(stepped(kind, saying, ((1, 0), "one", "back", ())),
                         ("times", E1, ("plus", ("times", ONE, E0), HALF)))
        self.assertEqual(stepped(kind, saying, ((0,), "still", "back", ())),
                         ("times", ("back", E1), ("plus", E0, HALF)))
        self.assertEqual(stepped(kind, ("back", number_saying(-1)), ((0,), "square", "back", (1,))),
                         ("back", ("times", E1, E1)))

    def test_each_rule_at_each_place(self):
        chance = chance_of("steps")
        for squares, kind in kinds([[1, -1], [0, 1, -1], [1, -1, 0, 1, -1]]):
            for rule in RULE_SIDES:
                for way in WAYS:
                    inner, more = fitting_saying(chance, squares, rule, way)
                    for place, saying in wrapped(inner):
                        made = stepped(kind, saying, (place, rule, way, more))
                        self.assertEqual(made, slow_stepped(squares, saying, (place, rule, way, more)))
                        self.assertEqual(slow_worth(squares, made), slow_worth(squares, saying))
                        self.assertEqual(ends(kind, saying, [(place, rule, way, more)]), made)
                        self.assertIs(leads(kind, saying, [(place, rule, way, more)], made), True)
                        self.refused(kind, saying, (place, rule, way, more + ((1, 2), E0, 0)))

    def test_some_steps(self):
        chance = chance_of("some steps")
        fitting = 0
        for squares, kind in kinds():
            for _ in range(20):
                saying = some_saying(chance, kind.count, chance.randint(1, 25), 8, 1)
                places = [place for place, inner in all_places(saying)]
                for rule in RULE_SIDES:
                    place = chance.choice(places) + chance.choice(((), (), (), (0,), (1,), (2,), (-1,)))
                    more = chance.choice(((), (), (), (0,), (chance.choice((E0, HALF, saying)),), ((0, 1), (1, 1))))
                    step = (place, rule, chance.choice(WAYS), more)
                    awaited = slow_stepped(squares, saying, step)
                    if awaited is None:
                        self.refused(kind, saying, step)
                    else:
                        fitting += 1
                        self.assertEqual(stepped(kind, saying, step), awaited)
        self.assertGreater(fitting, 50)

    def test_places_that_are_not_there(self):
        kind = Kind([1, -1])
        saying = ("plus", ("back", E0), ("times", HALF, E1))
        for place in ((0, 1), (2,), (-1,), (0, 0, 0), (1, 0, 0), (1, 1, 1), (1, 2), (0, -1), (10 ** 40 - 1,), (0, 0, 1),
                      (3, 0), (0,) * 40):
            self.refused(kind, saying, (place, "one", "back", ()))
            self.refused(kind, saying, (place, "turn", "there", ()))
        for place in ((), (0,), (1,), (0, 0), (1, 0), (1, 1)):
            self.assertEqual(stepped(kind, saying, (place, "none", "back", ())),
                             put_at(saying, place, ("plus", number_saying(0), dict(all_places(saying))[place])))

    def test_words_that_are_none(self):
        kind = Kind([1])
        saying = ("plus", E0, E0)
        for rule, way in (("", "there"), ("Turn", "there"), ("turn ", "there"), ("plus", "there"), ("there", "turn"),
                          ("turn", ""), ("turn", "Back"), ("turn", "turn"), ("stay", "back"), ("add", "forth"),
                          ("square", "forth"), ("one", "none")):
            for more in ((), (0,), ((1, 2), (1, 2)), (E0,)):
                self.refused(kind, saying, ((), rule, way, more))
                self.refused(kind, number_saying(1), ((), rule, way, more))

    def test_tuples_of_another_length(self):
        for step in ((), ((),), ((), "one", "back"), ((), "one", "back", (), ())):
            self.refused(Kind([1]), E0, step)

    def test_in_a_kind_without_steps(self):
        kind = Kind([])
        self.assertEqual(stepped(kind, number_saying(0), ((), "nought", "back", (HALF,))),
                         ("times", number_saying(0), HALF))
        self.refused(kind, number_saying(0), ((), "nought", "back", (E0,)))
        self.refused(kind, number_saying(1), ((), "square", "back", (0,)))

    def test_what_was_told_may_be_of_any_depth(self):
        kind = Kind([1])
        saying = E0
        for _ in range(2500):
            saying = stepped(kind, saying, ((), "one", "back", ()))
        self.assertEqual(parts_of(saying), 5001)
        self.assertEqual(worth(kind, saying), (((0,), (1, 1)),))
        deep = ("plus", ("times", saying, E0), ("times", stepped(kind, saying, ((), "one", "there", ())), E0))
        self.refused(kind, deep, ((), "left", "back", ()))
        same = ("plus", ("times", saying, E0), ("times", ends(kind, saying, []), HALF))
        found = stepped(kind, same, ((), "left", "back", ()))
        self.assertIs(are_same(found, ("times", saying, ("plus", E0, HALF))), True)
        self.assertEqual(parts_of(stepped(kind, number_saying(0), ((), "nought", "back", (saying,)))), 5003)
        end = stepped(kind, saying, ((1,) * 2500, "one", "back", ()))
        self.assertIs(leads(kind, saying, [((1,) * 2500, "one", "back", ())], end), True)
        self.assertIs(leads(kind, saying, [], end), False)


class PaperTest(unittest.TestCase):
    def some_paper(self, chance, squares, kind, saying, many):
        """A paper of steps that fit, and the saying at its end."""
        paper = []
        while len(paper) < many:
            place, inner = chance.choice(all_places(saying))
            rule = chance.choice(list(RULE_SIDES))
            more = chance.choice(((), (), (0,), (E0,), ((1, 2), (1, 2)), ((0, 1), (1, 1)), ((-1, 1), (-1, 1))))
            step = (place, rule, chance.choice(WAYS), more)
            made = slow_stepped(squares, saying, step)
            if made is not None and parts_of(made) <= 60:
                paper.append(step)
                saying = made
        return paper, saying

    def test_an_empty_paper(self):
        for squares, kind in kinds():
            saying = some_saying(chance_of("empty"), kind.count, 12, 6)
            self.assertEqual(ends(kind, saying, []), saying)
            self.assertIs(leads(kind, saying, [], saying), True)
            self.assertIs(leads(kind, saying, [], ("back", saying)), False)

    def test_some_papers(self):
        chance = chance_of("papers")
        for squares, kind in kinds([[1], [1, -1], [0, 1, -1], [1, 1, -1, -1, 0]]):
            for many in (1, 5, 40, 150):
                saying = some_saying(chance, kind.count, 15, 6, 1)
                paper, end = self.some_paper(chance, squares, kind, saying, many)
                kept = copy.deepcopy(paper)
                self.assertEqual(ends(kind, saying, paper), end)
                self.assertIs(leads(kind, saying, paper, end), True)
                self.assertEqual(worth(kind, end), worth(kind, saying))
                self.assertIs(leads(kind, saying, paper, ("plus", number_saying(0), end)), False)
                self.assertIs(leads(kind, saying, paper, ("number", (7, 9))), False)
                self.assertEqual(paper, kept)
                for at in (0, many // 2, many):
                    wrong = paper[:at] + [((), "turn", "nowhere", ())] + paper[at:]
                    with self.assertRaises(BadStep) as caught:
                        ends(kind, saying, wrong)
                    self.assertEqual(caught.exception.at, at)
                    self.assertIs(leads(kind, saying, wrong, end), False)
                self.assertEqual(ends(kind, saying, paper), end)

    def test_the_first_step_that_does_not_fit(self):
        kind = Kind([1, -1])
        saying = ("plus", E0, E1)
        turn, swap, move = [((), rule, "there", ()) for rule in ("turn", "swap", "move")]
        for paper, at in (([swap], 0), ([turn, swap, turn], 1), ([turn, turn, move], 2), ([move, swap], 0),
                          ([turn] * 39 + [move], 39), ([turn] * 399 + [swap], 399)):
            with self.assertRaises(BadStep) as caught:
                ends(kind, saying, paper)
            self.assertEqual(caught.exception.at, at)
            self.assertIs(leads(kind, saying, paper, saying), False)

    def test_a_long_paper(self):
        kind = Kind([1, -1])
        saying = row_saying("plus", [("times", E0, E1)] * 60)
        there = [((1,) * at + (0,), "swap", "there", ()) for at in range(59)]
        back = [((1,) * at + (0,), "swap", "back", ()) for at in range(59)]
        turned = row_saying("plus", [("times", number_saying(-1), ("times", E1, E0))] * 59 + [("times", E0, E1)])
        self.assertEqual(ends(kind, saying, there), turned)
        self.assertEqual(ends(kind, saying, (there + back) * 3), saying)
        self.assertIs(leads(kind, saying, (there + back) * 3 + there[:46], saying), False)
        self.assertIs(leads(kind, saying, [((), "turn", "there", ())] * 400, saying), True)
        self.assertIs(leads(kind, saying, [((), "turn", "there", ())] * 399, saying), False)

    def test_leads_looks_at_the_whole_saying(self):
        kind = Kind([1, -1])
        one = ("plus", ("plus", E0, E1), E0)
        other = ("plus", E0, ("plus", E1, E0))
        move = [((), "move", "there", ())]
        self.assertIs(leads(kind, one, move, other), True)
        for wrong in (one, ("plus", E0, ("plus", E0, E1)), ("plus", E0, ("times", E1, E0)), ("times", E0, other[2]),
                      ("plus", E0, ("plus", E1, ("step", 5))), E0, ("plus", ("plus", E0, E1), ("plus", E0, E1))):
            self.assertIs(leads(kind, one, move, wrong), False)
        long = row_saying("plus", [("times", ("number", (10 ** 199 + at, 7)), E0) for at in range(125)])
        self.assertIs(leads(kind, long, [], long), True)
        self.assertIs(leads(kind, long, [], put_at(long, (1,) * 100 + (0, 0), HALF)), False)


if __name__ == "__main__":
    unittest.main()
