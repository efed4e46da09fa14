"""Points 39 and 40: a desk."""

import unittest

from helper import chance_of, some_fraction, some_sum, some_vector
from signsteps.desk import Desk
from signsteps.errors import (NoKind, NoLine, NoMirror, NoName, NoPartner, NoSquare, NoStep, NoText, NoUndo, NoVector,
                              NoWord)
from signsteps.kinds import Kind
from signsteps.meeting import inner, outer
from signsteps.mirrors import mirrored
from signsteps.partners import partner, quotient
from signsteps.sums import minus, plus, scaled, times
from signsteps.texts import read_sum, sum_text
from signsteps.turning import back, flipped, part

FIELDS = {NoSquare: "place", NoName: "name", NoText: "at", NoStep: "step", NoVector: "place", NoMirror: "place"}


def seen(desk):
    """All that a desk shows, or None where it has no kind."""
    try:
        names = desk.tell("all")
    except NoKind:
        return None
    return names, [desk.tell("show " + name) for name in names.split(" ")] if names != "none" else []


class DeskTest(unittest.TestCase):
    def told(self, desk, *lines):
        for line, answer in lines:
            self.assertEqual(desk.tell(line), answer, line)

    def refused(self, desk, line, error, field=None):
        before = seen(desk)
        with self.assertRaises(error) as caught:
            desk.tell(line)
        self.assertIs(type(caught.exception), error, line)
        if error in FIELDS:
            self.assertEqual(getattr(caught.exception, FIELDS[error]), field, line)
        self.assertEqual(seen(desk), before)

    def some_desk(self):
        desk = Desk()
        self.told(desk, ("kind 1 -1 0", "kind"), ("put a 1/2 + 3 e0e1", "1/2 + 3 e0e1"),
                  ("put v e0 + 2 e1", "e0 + 2 e1"), ("put n e2", "e2"), ("put light e0 + e1", "e0 + e1"),
                  ("put zero 0", "0"))
        return desk


class AnswersTest(DeskTest):
    def test_kind(self):
        for line in ("kind", "kind 1", "kind -1 0", "kind 0 0 0 0 0", "kind 1 -1 0 1 -1"):
            desk = Desk()
            self.told(desk, (line, "kind"), ("all", "none"), ("put a 1", "1"), (line, "kind"), ("all", "none"))
        desk = Desk()
        self.told(desk, ("kind", "kind"), ("put a 1/2 + 1/3", "5/6"), ("times b a a", "25/36"), ("all", "a b"))

    def test_put(self):
        desk = Desk()
        self.told(desk, ("kind 1 -1 0", "kind"), ("put x -1/2 + e0 + 3 e0e2", "-1/2 + e0 + 3 e0e2"),
                  ("put y e1e0", "-1 e0e1"), ("put z 0/5 e1", "0"), ("put abcdefgh 2/4 e2 + 1/2 e2", "e2"),
                  ("put x e0e0", "1"), ("show x", "1"), ("all", "abcdefgh x y z"), ("show z", "0"))

    def test_sums_of_two(self):
        self.told(self.some_desk(), ("plus p a v", "1/2 + e0 + 3 e0e1 + 2 e1"),
                  ("minus p a v", "1/2 + -1 e0 + 3 e0e1 + -2 e1"), ("times p v v", "-3"),
                  ("times p a n", "3 e0e1e2 + 1/2 e2"), ("outer p v light", "-1 e0e1"), ("inner p v light", "-1"),
                  ("inner p light a", "3 e0 + 3 e1"), ("times p v n", "e0e2 + 2 e1e2"),
                  ("over p n v", "1/3 e0e2 + 2/3 e1e2"), ("mirror p light v", "1/3 e0 + -1/3 e1"),
                  ("show p", "1/3 e0 + -1/3 e1"))

    def test_sums_of_one(self):
        self.told(self.some_desk(), ("scale s a -2/3", "-1/3 + -2 e0e1"), ("scale s a 0", "0"),
                  ("scale s a 4", "2 + 12 e0e1"), ("back s a", "1/2 + -3 e0e1"), ("flipped s v", "-1 e0 + -2 e1"),
                  ("flipped s a", "1/2 + 3 e0e1"), ("part s a 2", "3 e0e1"), ("part s a 0", "1/2"),
                  ("part s a 1", "0"), ("part s a -1", "0"), ("part s a " + "9" * 50, "0"), ("show s", "0"),
                  ("scale s n " + "9" * 50 + "/7", "9" * 50 + "/7 e2"))

    def test_new_that_is_one_of_them(self):
        desk = self.some_desk()
        self.told(desk, ("plus a a a", "1 + 6 e0e1"), ("show a", "1 + 6 e0e1"),
                  ("minus v a v", "1 + -1 e0 + 6 e0e1 + -2 e1"), ("scale v v -1", "-1 + e0 + -6 e0e1 + 2 e1"),
                  ("back v v", "-1 + e0 + 6 e0e1 + 2 e1"), ("undo", "undo"), ("undo", "undo"), ("undo", "undo"),
                  ("show v", "e0 + 2 e1"), ("mirror v v v", "-1 e0 + -2 e1"), ("over v v v", "1"), ("show v", "1"))

    def test_partner(self):
        desk = self.some_desk()
        self.told(desk, ("partner v", "one -1/3 e0 + -2/3 e1"), ("partner n", "nought"), ("partner zero", "nought"),
                  ("partner light", "nought"), ("put a 4", "4"), ("partner a", "one 1/4"), ("show v", "e0 + 2 e1"))

    def test_show_drop_all(self):
        desk = self.some_desk()
        self.told(desk, ("all", "a light n v zero"), ("drop n", "n"), ("all", "a light v zero"), ("drop a", "a"),
                  ("drop zero", "zero"), ("drop v", "v"), ("drop light", "light"), ("all", "none"))
        self.refused(desk, "show n", NoName, "n")
        self.told(desk, ("put none 1", "1"), ("all", "none"), ("put b 2", "2"), ("put az 3", "3"), ("all", "az b none"))

    def test_worth(self):
        desk = self.some_desk()
        self.told(desk, ("worth ~(e0 * (1/2 + e1))", "1/2 e0 + -1 e0e1"), ("worth e2", "e2"), ("worth (e2 * e2)", "0"),
                  ("worth -3/7", "-3/7"), ("worth ~~e1", "e1"), ("all", "a light n v zero"))

    def test_against_the_functions(self):
        chance = chance_of("desk")
        desk, kind = Desk(), Kind([1, -1, 0, 1])
        desk.tell("kind 1 -1 0 1")
        for _ in range(25):
            one, other = some_sum(chance, 4, 2), some_sum(chance, 4, 2)
            vector, mirror = some_vector(chance, 4, 2), (((0,), (2, 1)), ((1,), (1, 1)))
            number = some_fraction(chance, 2)
            for name, told in (("a", one), ("b", other), ("v", vector), ("m", mirror)):
                self.assertEqual(desk.tell(f"put {name} {sum_text(told)}"), sum_text(told))
            for line, awaited in (("plus c a b", plus(one, other)), ("minus c a b", minus(one, other)),
                                  ("times c a b", times(kind, one, other)), ("outer c a b", outer(kind, one, other)),
                                  ("inner c a b", inner(kind, one, other)), ("back c a", back(one)),
                                  ("flipped c a", flipped(one)), ("part c a 2", part(one, 2)),
                                  ("scale c a " + sum_text((((), number),)), scaled(one, number)),
                                  ("over c a m", quotient(kind, one, mirror)),
                                  ("mirror c v m", mirrored(kind, mirror, vector))):
                self.assertEqual(read_sum(kind, desk.tell(line)), awaited)
                self.assertEqual(desk.tell("show c"), sum_text(awaited))
            is_there, found = partner(kind, one)
            self.assertEqual(desk.tell("partner a"), "one " + sum_text(found) if is_there else "nought")


class UndoTest(DeskTest):
    LINES = ("kind 1 -1 0", "put a e0 + 1/2", "put a e0 + 1/2", "plus b a a", "times a a b", "scale c a 0", "drop b",
             "put b 1", "mirror b b b", "part d a 7", "kind 1 -1 0", "kind", "put a 5", "drop a", "kind 0", "back e e")

    def test_back_to_the_first(self):
        desk = Desk()
        states = [seen(desk)]
        for line in self.LINES:
            try:
                desk.tell(line)
                states.append(seen(desk))
            except (NoName, NoVector):
                pass
        self.assertEqual(len(states), len(self.LINES) - 1)
        for state in states[-2::-1]:
            self.assertEqual(desk.tell("undo"), "undo")
            self.assertEqual(seen(desk), state)
        self.refused(desk, "undo", NoUndo)
        self.refused(desk, "all", NoKind)

    def test_lines_that_ask_are_not_taken_back(self):
        desk = self.some_desk()
        desk.tell("drop n")
        for line in ("show a", "all", "partner v", "worth e0"):
            desk.tell(line)
        self.told(desk, ("undo", "undo"), ("show n", "e2"), ("undo", "undo"), ("all", "a light n v"), ("undo", "undo"),
                  ("all", "a n v"))

    def test_what_is_taken_back_is_gone(self):
        desk = self.some_desk()
        self.told(desk, ("put a 1", "1"), ("undo", "undo"), ("put a 2", "2"), ("undo", "undo"),
                  ("show a", "1/2 + 3 e0e1"), ("kind 1", "kind"), ("put q e0", "e0"), ("undo", "undo"),
                  ("undo", "undo"), ("show a", "1/2 + 3 e0e1"), ("put w e2", "e2"), ("all", "a light n v w zero"))
        for _ in range(7):
            desk.tell("undo")
        self.assertIsNone(seen(desk))
        self.refused(desk, "undo", NoUndo)

    def test_what_is_refused_is_not_taken_back(self):
        desk = self.some_desk()
        for line, error, field in (("put b x", NoText, 0), ("over b a n", NoPartner, None), ("drop b", NoName, "b"),
                                   ("kind 2", NoSquare, 0), ("plus A a a", NoWord, None), ("put b e7", NoStep, 7)):
            self.refused(desk, line, error, field)
        self.told(desk, ("undo", "undo"), ("all", "a light n v"))

    def test_some_lines(self):
        chance = chance_of("undo")
        for _ in range(12):
            desk, states = Desk(), [None]
            for _ in range(60):
                names = [chance.choice(("a", "b", "c")) for _ in range(3)]
                line = chance.choice(("kind 1 0", "kind -1", "put {0} e0 + 1/3", "put {0} 2", "plus {0} {1} {2}",
                                      "undo", "undo", "times {0} {1} {2}", "drop {0}", "over {0} {1} {2}",
                                      "back {0} {1}", "part {0} {1} 0", "put {0} e1", "mirror {0} {1} {2}",
                                      "scale {0} {1} -1/2")).format(*names)
                try:
                    desk.tell(line)
                except (NoName, NoKind, NoUndo, NoPartner, NoVector, NoMirror, NoStep):
                    self.assertEqual(seen(desk), states[-1])
                    continue
                if line == "undo":
                    states.pop()
                else:
                    states.append(seen(desk))
                self.assertEqual(seen(desk), states[-1])

    def test_two_desks(self):
        one, other = Desk(), Desk()
        self.told(one, ("kind 1", "kind"), ("put a e0", "e0"))
        self.refused(other, "all", NoKind)
        self.refused(other, "undo", NoUndo)
        self.told(other, ("kind -1", "kind"), ("put a 7 e0", "7 e0"), ("put b 1", "1"), ("times a a a", "-49"))
        self.told(one, ("times b a a", "1"), ("all", "a b"), ("undo", "undo"), ("all", "a"))
        self.told(other, ("all", "a b"), ("show a", "-49"))


class RefusalsTest(DeskTest):
    def test_no_line(self):
        for line in ("", " ", "  ", "sum", "Kind 1", "KIND", " kind", "kind ", "kind  1", "kind 1 ", "kind 1  0",
                     "kind 1 1 1 1 1 1", "kind 9 9 9 9 9 9", "put", "put a", "put  1", "put  ", "put  a 1", " put a 1",
                     "puta 1", "worth", " worth 1", "plus", "plus c a", "plus c a v v", "plus c  v", "plus c a ",
                     "plus  a v", "plus c a v ", "minus c a", "minus c a v v", "times c a v v", "outer c a v v",
                     "inner c a v v", "over c a v v", "times c", "outer c a", "inner c a", "over c a", "mirror c a",
                     "mirror c a v v", "scale c a", "scale c a 1 2", "scale c a ", "part c a", "part c a 1 ",
                     "part c a 1 2", "back c", "back c a a", "back c ", "flipped c", "flipped c a v", "partner",
                     "partner ", "partner a v", "show", "show ", "show a v", "show  a", "drop", "drop a v", "all a",
                     "all ", "undo a", "undo ", "undone", "e0", "1", "-", "kind\t1"):
            self.refused(Desk(), line, NoLine)
            self.refused(self.some_desk(), line, NoLine)

    def test_no_square(self):
        for line, place in (("kind 2", 0), ("kind 1 2", 1), ("kind 1 -1 0 x 2", 3), ("kind -0", 0), ("kind 01", 0),
                            ("kind +1", 0), ("kind 1 1 1 1 1/1", 4), ("kind 0 -", 1), ("kind 10", 0), ("kind e0", 0)):
            self.refused(Desk(), line, NoSquare, place)
            self.refused(self.some_desk(), line, NoSquare, place)

    def test_no_kind(self):
        for line in ("put a 1", "put A x", "plus A b c", "minus a b c", "times a b c", "outer a b c", "inner a b c",
                     "over a b c", "mirror a b c", "scale a b x", "part a b x", "back a b", "flipped A b", "partner a",
                     "show a", "drop a", "all", "worth x", "worth ", "put a "):
            self.refused(Desk(), line, NoKind)
            desk = Desk()
            self.told(desk, ("kind 1", "kind"), ("undo", "undo"))
            self.refused(desk, line, NoKind)
        self.refused(Desk(), "undo", NoUndo)

    def test_no_word(self):
        desk = self.some_desk()
        for name in ("A", "aB", "abcdefghi", "a1", "1", "-", "a_b", "a-b", "e0", "~", "{", "`"):
            for line in ("put {} 1", "put {} x", "put {} ", "plus {} a v", "plus {} q q", "minus {} a q",
                         "times {} q a", "outer {} a a", "inner {} a a", "over {} a n", "over {} q q", "mirror {} a a",
                         "mirror {} q a", "scale {} a x", "scale {} q 1", "part {} a x", "part {} q 1", "back {} a",
                         "back {} q", "flipped {} a", "flipped {} q"):
                self.refused(desk, line.format(name), NoWord)
        self.told(desk, ("put a 1", "1"), ("put abcdefgh 1", "1"), ("put z 1", "1"))

    def test_no_name(self):
        desk = self.some_desk()
        for line, name in (("plus c q a", "q"), ("plus c a q", "q"), ("plus c q r", "q"), ("minus c a A", "A"),
                           ("times c c a", "c"), ("outer c a e0", "e0"), ("inner c 1 1", "1"), ("over c n q", "q"),
                           ("over c q n", "q"), ("mirror c a q", "q"), ("mirror c q n", "q"), ("scale c q x", "q"),
                           ("scale c q 2/4", "q"), ("part c q x", "q"), ("back c q", "q"),
                           ("flipped c abcdefghi", "abcdefghi"), ("partner q", "q"), ("show q", "q"), ("drop q", "q"),
                           ("show aa", "aa"), ("show A", "A"), ("drop -", "-")):
            self.refused(desk, line, NoName, name)

    def test_no_text(self):
        desk = self.some_desk()
        for line, at in (("put c ", 0), ("put c  1", 0), ("put c 1 ", 0), ("put c 1 + x", 1), ("put c e0 + 1 + -0", 2),
                         ("put c e9 + e", 1), ("put c  ", 0), ("put c 1 + ", 1), ("put c e0  + 1", 0),
                         ("put c (e0 + e1)", 0), ("worth ", 0), ("worth  1", 0), ("worth 1 ", 1), ("worth 1 + 2", 1),
                         ("worth (e9 + ", 6), ("worth 2/4", 3), ("worth 0/", 1), ("worth (1 + 2", 6),
                         ("worth ~(e0 * (1/2 + e1)", 17), ("worth 3 e0", 1), ("scale c a x", 3), ("scale c a 2/4", 3),
                         ("scale c a 2/1", 3), ("scale c a -0", 3), ("scale c a 0/5", 3), ("scale c a 1/0", 3),
                         ("scale c a e0", 3), ("scale c a 01", 3), ("scale c a 1/", 3), ("part c a x", 3),
                         ("part c a 1/2", 3), ("part c a -0", 3), ("part c a 02", 3), ("part c a +1", 3),
                         ("part c a e0", 3)):
            self.refused(desk, line, NoText, at)

    def test_the_rest(self):
        desk = self.some_desk()
        for line, error, field in (
                ("put c e3", NoStep, 3), ("put c 1 + e0e7 + e5", NoStep, 7), ("worth e3", NoStep, 3),
                ("worth (e5 + (0 * e4))", NoStep, 5), ("over c a n", NoPartner, None),
                ("over c a zero", NoPartner, None), ("over c zero light", NoPartner, None),
                ("mirror c a v", NoVector, 1), ("mirror c v a", NoVector, 0), ("mirror c a a", NoVector, 0),
                ("mirror c v n", NoMirror, 0), ("mirror c v light", NoMirror, 0), ("mirror c v zero", NoMirror, 0),
                ("mirror c a n", NoVector, 1)):
            self.refused(desk, line, error, field)
        self.told(desk, ("mirror c n v", "e2"), ("mirror c zero v", "0"))

    def test_the_sum_that_makes_nought(self):
        desk, kind = self.some_desk(), Kind([1, -1, 0])
        for name, text in (("n", "e2"), ("light", "e0 + e1"), ("zero", "0")):
            with self.assertRaises(NoPartner) as caught:
                desk.tell("over c a " + name)
            self.assertNotEqual(caught.exception.other, ())
            self.assertEqual(times(kind, read_sum(kind, text), caught.exception.other), ())


if __name__ == "__main__":
    unittest.main()
