"""Points 1 to 4 over the whole program: what is asked of all modules, one behind the other, again and again."""

import copy
import unittest

from helper import (ONE, all_places, chance_of, kinds, some_fraction, some_mirror, some_saying, some_sum, some_table,
                    some_vector, step_sum, table_of_mirrors)
from signsteps import (apart, boards, crossings, desk, errors, evens, finder, flats, kinds as kinds_module, meeting,
                       mirrors, owns, papers, partners, sayings, sums, texts, turning)

FULL = [[1], [1, -1], [-1, -1, -1], [1, 1, -1, -1], [1, -1, 1, 1, 1], [1] * 5]
OTHERS = [[], [0], [1, 0], [0, -1, 1], [0, 1, 1, 1, 1]]


def questions_of_sums(chance, squares, kind):
    one, other = some_sum(chance, kind.count, 2), some_sum(chance, kind.count, 2)
    grade = turning.part(one, 2) or step_sum(0)
    rows = [((kind.count - 1, 0), (1, 2)), ((), (3, 4)), ((0, 0), (-1, 1))] if kind.count else [((), (3, 4))]
    return [(kinds_module.Kind, (list(squares),)), (kinds_module.Kind, ([1, 2],)), (sums.sum_of, (kind, rows)),
            (sums.sum_of, (kind, [((9,), (1, 1))])), (sums.plus, (one, other)), (sums.minus, (one, other)),
            (sums.scaled, (one, (-2, 3))), (sums.times, (kind, one, other)), (sums.is_sum, (kind, one)),
            (turning.grades, (one,)), (turning.part, (one, 1)), (turning.back, (one,)), (turning.flipped, (one,)),
            (meeting.outer, (kind, one, other)), (meeting.inner, (kind, one, other)), (meeting.number_of, (one,)),
            (partners.partner, (kind, one)), (partners.quotient, (kind, one, other)), (mirrors.alike, (kind, one, one)),
            (apart.mirrors_of, (kind, one)), (flats.flat_parts, (kind, grade)), (flats.row_at, (kind, grade, (0,))),
            (owns.products_of, (kind,)), (owns.own_table, (kind, one)),
            (owns.sum_at, (kind, owns.own_table(kind, one))), (owns.beside_all, (kind,)), (owns.halves, (kind,)),
            (owns.folded, (kind, one, 0)), (evens.even_kind, (kind,)), (evens.into_even, (kind, ONE)),
            (evens.out_of_even, (kind, turning.part(one, 2))), (crossings.crossed, (kind, 0)),
            (crossings.cross, (kind, 0, one)), (crossings.fours, (kind, (0, 1, 2, 3))),
            (crossings.cross_four, (kind, (0, 1, 2, 3), one)), (sayings.kept_saying, (one,)), (texts.sum_text, (one,)),
            (texts.read_sum, (kind, texts.sum_text(one))), (texts.read_sum, (kind, "1 + e"))]


def questions_of_tables(chance, squares, kind):
    vector, table = some_vector(chance, kind.count, 2), some_table(chance, kind.count, 2)
    found = [(meeting.dot, (kind, vector, vector)), (mirrors.led, (kind, table, vector)),
             (mirrors.put_behind, (kind, table, some_table(chance, kind.count, 2))),
             (mirrors.keeps_measure, (kind, table)), (mirrors.versor_of, (kind, [])),
             (apart.taken_apart, (kind, table)), (mirrors.led, (kind, [], vector))]
    if any(squares):
        mirror = some_mirror(chance, squares, 2)
        found += [(mirrors.mirrored, (kind, mirror, vector)), (mirrors.mirror_table, (kind, mirror)),
                  (mirrors.versor_of, (kind, [mirror, mirror])), (mirrors.versor_table, (kind, mirror)),
                  (apart.taken_apart, (kind, table_of_mirrors(kind, [mirror]))),
                  (mirrors.keeps_measure, (kind, mirrors.mirror_table(kind, mirror)))]
    return found


def questions_of_boards(chance, squares, kind):
    if not squares or 0 in squares:
        return [(boards.boards_for, (kind,)), (boards.size_of, (kind,)), (boards.blind, (kind, []))]
    told, one = boards.boards_for(kind), some_sum(chance, kind.count, 2)
    return [(boards.board_fault, (kind, told)), (boards.board_of, (kind, told, one)), (boards.blind, (kind, told)),
            (boards.sum_from, (kind, told, boards.board_of(kind, told, one))), (boards.size_of, (kind,)),
            (boards.boards_for, (kind,)), (boards.board_fault, (kind, told[::-1])), (boards.board_of, (kind, [], one))]


def questions_of_sayings(chance, squares, kind):
    saying = some_saying(chance, kind.count, 14, 6)
    place, inner = chance.choice(all_places(saying))
    turned = ("plus", ("number", (0, 1)), ("back", ("back", saying)))
    paper = finder.to_kept(kind, saying)
    kept = sayings.kept_saying(sayings.worth(kind, saying))
    return [(sayings.worth, (kind, saying)), (sayings.parts_of, (saying,)), (sayings.worth, (kind, ("step", 7))),
            (papers.stepped, (kind, saying, (place, "one", "back", ()))), (papers.ends, (kind, saying, paper)),
            (papers.stepped, (kind, saying, (place, "stay", "back", ()))), (papers.leads, (kind, saying, paper, kept)),
            (papers.ends, (kind, ("number", (1, 7)), [(place, "none", "back", ()), ((), "swap", "there", ())])),
            (finder.to_kept, (kind, saying)), (finder.between, (kind, saying, turned)),
            (finder.between, (kind, saying, ("plus", saying, ("number", some_fraction(chance, 2))))),
            (texts.saying_text, (saying,)), (texts.read_saying, (texts.saying_text(saying),)),
            (texts.read_saying, ("(1 + 2/4)",))]


def questions_of_desks(chance, squares, kind):
    def answers(lines):
        told = desk.Desk()
        return [asked(told.tell, (line,)) for line in lines]

    return [(answers, ([f"kind {' '.join(map(str, squares))}".strip(), "put a 1/2 + e0", "times b a a", "partner a",
                        "put c 2", "scale c c 1/3", "over d c c", "all", "undo", "worth (1 + ~e0)", "drop c", "all"],))]


def all_questions(word, squares, kind):
    found = []
    for make in (questions_of_sums, questions_of_tables, questions_of_boards, questions_of_sayings, questions_of_desks):
        found += make(chance_of(word), squares, kind)
    return found


def shown(thing):
    """What is told, as something to be compared."""
    if isinstance(thing, kinds_module.Kind):
        return ("kind", thing.count, thing.squares)
    return copy.deepcopy(thing)


def asked(function, arguments):
    """What a question is answered, or how it is refused."""
    try:
        return function(*arguments)
    except errors.StepError as why:
        return (type(why).__name__, vars(why))


def spoil(thing):
    """Change all lists in a thing."""
    if isinstance(thing, (list, tuple)):
        for inner in thing:
            spoil(inner)
    if isinstance(thing, list):
        thing.append("spoilt")
        thing.reverse()


class WholeTest(unittest.TestCase):
    def test_who_asks_again_is_told_the_same(self):
        rows = [(squares, kind, all_questions("again", squares, kind)) for squares, kind in kinds(FULL + OTHERS)]
        answers = [[shown(asked(*question)) for question in questions] for squares, kind, questions in rows]
        for first in range(len(rows)):
            second = (first + 3) % len(rows)
            # Of two kinds by turns.
            for place in range(max(len(rows[first][2]), len(rows[second][2]))):
                for at in (first, second):
                    if place < len(rows[at][2]):
                        self.assertEqual(shown(asked(*rows[at][2][place])), answers[at][place], rows[at][2][place])

    def test_the_same_of_another_kind_with_the_same_squares(self):
        for squares, kind in kinds(FULL[2:4] + OTHERS[2:4]):
            questions = all_questions("another", squares, kind)
            again = all_questions("another", squares, kinds_module.Kind(list(squares)))
            self.assertEqual([shown(asked(*question)) for question in questions],
                             [shown(asked(*question)) for question in again[::-1]][::-1])

    def test_nothing_that_is_handed_in_is_changed(self):
        for squares, kind in kinds(FULL + OTHERS):
            for function, arguments in all_questions("handed in", squares, kind):
                before = [shown(argument) for argument in arguments]
                asked(function, arguments)
                self.assertEqual([shown(argument) for argument in arguments], before, function)

    def test_lists_that_were_handed_in_and_told_are_changed_behind_the_call(self):
        for squares, kind in kinds(FULL[1:5] + OTHERS[1:]):
            for at in range(len(all_questions("changed", squares, kind))):
                # Some questions have lists in common: each is made anew.
                function, arguments = all_questions("changed", squares, kind)[at]
                told = asked(function, arguments)
                awaited = shown(told)
                spoil(arguments)
                self.assertEqual(shown(told), awaited, function)
                spoil(told)
                function, arguments = all_questions("changed", squares, kind)[at]
                self.assertEqual(shown(asked(function, arguments)), awaited, function)

    def test_a_kind_stays_though_its_list_is_changed(self):
        squares = [1, -1]
        kind = kinds_module.Kind(squares)
        squares.clear()
        self.assertEqual((kind.count, kind.squares), (2, (1, -1)))
        other = evens.even_kind(kind)
        self.assertEqual((kind.squares, other.squares), ((1, -1), (1,)))

    def test_lists_that_a_desk_never_hands_out(self):
        told = desk.Desk()
        told.tell("kind 1 -1")
        told.tell("put a e0 + 2")
        answer = told.tell("all")
        self.assertEqual([told.tell(line) for line in ("show a", "all", "show a")], ["2 + e0", answer, "2 + e0"])


if __name__ == "__main__":
    unittest.main()
