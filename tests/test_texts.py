"""Points 37 and 38: sums and sayings as texts."""

import re
import unittest
from fractions import Fraction

from helper import (ALL_SQUARES, ONE, all_places, chance_of, full_sum, kinds, pair, slow_sum, some_fraction, some_rows,
                    some_saying, some_sum, step_sum)
from signsteps.errors import NoStep, NoText
from signsteps.figures import read_fraction, read_whole, whole_text
from signsteps.kinds import Kind
from signsteps.sayings import are_same, kept_saying
from signsteps.sums import times
from signsteps.texts import read_saying, read_sum, saying_text, sum_text

COUNT = "(?:0|[1-9][0-9]*)"
FRACTION = f"(?:0|-?[1-9][0-9]*)(?:/[1-9][0-9]*)?"
STEPS = f"(?:e{COUNT})+"
TERM = re.compile(f"(?:{FRACTION}(?: {STEPS})?|{STEPS})")
SIGNS = "0123456789/-e +*()~ax"


def slow_read_sum(squares, text):
    """(rows, None), or (None, the number of the first term that is none)."""
    rows = []
    for place, term in enumerate(text.split(" + ")):
        if not TERM.fullmatch(term):
            return None, place
        number, steps = re.fullmatch("([^e ]*) ?(.*)", term).groups()
        top, _, bottom = (number or "1").partition("/")
        rows.append((tuple(map(int, re.findall("[0-9]+", steps))), (int(top), int(bottom or 1))))
    return rows, None


def is_whole_leaf(leaf):
    """Whether this is a number in lowest terms, or a step, written."""
    if re.fullmatch(f"e{COUNT}", leaf):
        return True
    if not re.fullmatch(FRACTION, leaf):
        return False
    top, _, bottom = leaf.partition("/")
    return not bottom or bottom != "1" and pair(Fraction(int(top), int(bottom))) == (int(top), int(bottom))


def is_begun_leaf(leaf):
    """Whether a number or a step may begin so."""
    return bool(re.fullmatch(f"e{COUNT}?|-?|0|-?[1-9][0-9]*(/([1-9][0-9]*)?)?", leaf))


def shape_of(text):
    """The text with A for each leaf, and for each whole saying of them; None where a leaf is none."""
    def leaf(found):
        word = found.group()
        if found.end() == len(text):
            return "A" if is_whole_leaf(word) else "B" if is_begun_leaf(word) else "!"
        return "A" if is_whole_leaf(word) else "!"

    shape = re.sub("e[0-9]*|-[0-9/]*|[0-9][0-9/]*", leaf, text)
    while True:
        shorter = re.sub(r"~A|\(A [+*] A\)", "A", shape)
        if shorter == shape:
            return shape
        shape = shorter


def is_begun(text):
    """Whether the text of some saying begins so."""
    return bool(re.fullmatch(r"(~|\(A [+*] |\()*(A|B|\(A [+*]?)?", shape_of(text)))


def slow_at(text):
    """None where the text is a saying's, else how long its longest beginning is that a saying's text has, too."""
    if shape_of(text) == "A":
        return None
    return max(length for length in range(len(text) + 1) if is_begun(text[:length]))


def changed_texts(chance, text, many):
    """The text with one sign put in, left out or exchanged, cut off, or with more behind."""
    found = [text[:at] for at in range(len(text))] + [text + sign for sign in SIGNS] + [text + text]
    for _ in range(many):
        at, sign = chance.randrange(len(text) + 1), chance.choice(SIGNS)
        found += [text[:at] + sign + text[at:], text[:at] + text[at + 1:], text[:at] + sign + text[at + 1:]]
    return found


class SumTextTest(unittest.TestCase):
    def test_by_hand(self):
        for one, text in (((), "0"), (ONE, "1"), ((((), (-1, 2)),), "-1/2"), (step_sum(0), "e0"), (step_sum(4), "e4"),
                          ((((0,), (-1, 1)),), "-1 e0"), ((((0, 1, 2), (1, 1)),), "e0e1e2"),
                          ((((1,), (1, 3)),), "1/3 e1"),
                          ((((), (-1, 2)), ((0,), (1, 1)), ((0, 2), (3, 1))), "-1/2 + e0 + 3 e0e2"),
                          ((((), (1, 1)), ((1,), (-7, 2))), "1 + -7/2 e1")):
            self.assertEqual(sum_text(one), text)
            self.assertEqual(read_sum(Kind([1, -1, 0, 1, -1]), text), one)

    def test_leads_back(self):
        chance = chance_of("sum texts")
        for squares, kind in kinds(ALL_SQUARES[::2]):
            for one in (some_sum(chance, kind.count, 50), full_sum(chance, kind.count, 1), ()):
                self.assertEqual(read_sum(kind, sum_text(one)), one)

    def test_any_figures(self):
        chance = chance_of("figures")
        kind = Kind([1, -1, 1, -1, 1])
        one, other, third = [full_sum(chance, 5, 110) for _ in range(3)]
        one = times(kind, times(kind, one, other), third)
        self.assertGreater(max(bottom.bit_length() for product, (top, bottom) in one), 15000)
        text = sum_text(one)
        self.assertEqual(read_sum(kind, text), one)
        self.assertEqual(text.count("\n") + text.count("  "), 0)
        for number in (0, 7, 10 ** 60 - 1, 10 ** 60, 10 ** 60 + 1, 10 ** 119, 10 ** 120, 10 ** 120 - 1, 3 ** 2000,
                       10 ** 4000):
            self.assertEqual(whole_text(number), str(number))
            self.assertEqual(whole_text(-number), str(-number))
            self.assertEqual(read_whole(str(-number)), -number)

    def test_what_is_taken(self):
        kind = Kind([1, -1, 0])
        for text, rows in (("1 e0", [((0,), (1, 1))]), ("2/1", [((), (2, 1))]), ("0/5 e1", []), ("0", []),
                           ("0 + 0", []), ("2/4", [((), (1, 2))]), ("-6/4 e2", [((2,), (-3, 2))]),
                           ("e1e0", [((1, 0), (1, 1))]), ("e0e0", [((), (1, 1))]), ("e1e1e0", [((1, 1, 0), (1, 1))]),
                           ("3 e2e2", []), ("1/1 e0", [((0,), (1, 1))]), ("e0 + e0", [((0,), (2, 1))]),
                           ("e0 + -1 e0", []), ("1 + e0 + 1", [((), (2, 1)), ((0,), (1, 1))]), ("e0e1 + e1e0", []),
                           ("0/7", []), ("0/7 e0e0", []), ("-1 e0e1e0e1", [((0, 1, 0, 1), (-1, 1))])):
            self.assertEqual(read_sum(kind, text), slow_sum((1, -1, 0), rows), text)
        self.assertEqual(read_sum(Kind([]), "1/2 + 1/3"), (((), (5, 6)),))

    def test_some_texts(self):
        chance = chance_of("terms")
        for squares, kind in kinds():
            for _ in range(6):
                rows = some_rows(chance, kind.count, chance.randint(1, 12), 7, 4)
                words = []
                for at, (steps, (top, bottom)) in enumerate(rows):
                    by = chance.randint(1, 4)
                    rows[at] = (steps, (top * by, bottom * by))
                    number = f"{top * by}/{bottom * by}" if bottom * by > 1 or chance.random() < 0.5 else str(top)
                    words.append(" ".join([number] + ["".join(f"e{step}" for step in steps)] * bool(steps)))
                self.assertEqual(read_sum(kind, " + ".join(words)), slow_sum(squares, rows))

    def refused(self, kind, text, at):
        with self.assertRaises(NoText) as caught:
            read_sum(kind, text)
        self.assertEqual(caught.exception.at, at, text)

    def test_no_text(self):
        kind = Kind([1, -1, 0])
        for text in ("", "-0", "00", "01", "-01", "1/0", "0/0", "1/01", "1/-2", "-0/5", "-0 e0", "1/", "/2", "1/2/3",
                     "e", "-", "e-1", "e01", "e00", "e0e", "ee0", "-e0", "+1", "1e0", "1  e0", " 1", "1 ", " e0",
                     "e0 ", "1 e0 ", "1 e0 e1", "e0 e1", "e0 1", "1 1", "1 2 e0", "1.5", "a", "E0", "1 - e0",
                     "e0 - e1", "e0*e1", "2*e0", "1+e0", "1 +e0", "1+ e0", "e 0", "1 e", "--1", "1/ 2", "1 /2", "(1)",
                     "~e0", "e1/2", "1/e0", "1 e0/2", "1 e-1", "1,2", "1/2e0"):
            self.refused(kind, text, 0)
            self.refused(kind, "1/2 + e0 + " + text, 2)
            self.refused(kind, "e9 + " + text + " + e8", 1)
            if text:
                self.refused(kind, text + " + -0", 0)
        for text, at in (("1 + ", 1), (" + 1", 0), (" + ", 0), ("1 +  + 2", 1), ("1 + + 2", 1), ("1 + 2 + ", 2),
                         ("1 + 2 +", 1), ("1 +  2", 1), ("1  + 2", 0), ("1 + 2 + 03 + x", 2), ("e0 + e1 + e2 + e", 3)):
            self.refused(kind, text, at)

    def test_no_step(self):
        kind = Kind([1, -1])
        for text, step in (("e2", 2), ("e0e2", 2), ("1 + e3 + e2", 3), ("0 e7", 7), ("e1e0e5e4 + e9", 5),
                           ("e12", 12), ("0/3 e" + "9" * 50, 10 ** 50 - 1)):
            with self.assertRaises(NoStep) as caught:
                read_sum(kind, text)
            self.assertEqual(caught.exception.step, step)
        with self.assertRaises(NoStep) as caught:
            read_sum(Kind([]), "e0")
        self.assertEqual(caught.exception.step, 0)

    def test_changed_texts(self):
        chance = chance_of("changed sums")
        seen = set()
        for squares, kind in kinds([[1, -1, 0], [1, -1, 0, 1, -1]]):
            for _ in range(12):
                for text in changed_texts(chance, sum_text(some_sum(chance, kind.count, 2)), 60):
                    rows, at = slow_read_sum(squares, text)
                    seen.add(rows is None)
                    if rows is None:
                        self.refused(kind, text, at)
                        continue
                    far = [step for steps, fraction in rows for step in steps if step >= kind.count]
                    if far:
                        with self.assertRaises(NoStep) as caught:
                            read_sum(kind, text)
                        self.assertEqual(caught.exception.step, far[0])
                    else:
                        self.assertEqual(read_sum(kind, text), slow_sum(squares, rows))
        self.assertEqual(seen, {True, False})


class SayingTextTest(unittest.TestCase):
    def test_by_hand(self):
        e0, e1, half = ("step", 0), ("step", 1), ("number", (1, 2))
        for saying, text in ((e0, "e0"), (half, "1/2"), (("number", (0, 1)), "0"), (("number", (-7, 1)), "-7"),
                             (("plus", e0, e1), "(e0 + e1)"), (("times", half, e1), "(1/2 * e1)"),
                             (("back", e0), "~e0"), (("back", ("back", half)), "~~1/2"),
                             (("step", 10 ** 40 - 1), "e" + "9" * 40),
                             (("back", ("times", e0, ("plus", half, e1))), "~(e0 * (1/2 + e1))"),
                             (("plus", ("times", e0, e1), ("back", ("number", (-1, 3)))), "((e0 * e1) + ~-1/3)")):
            self.assertEqual(saying_text(saying), text)
            self.assertEqual(read_saying(text), saying)
        self.assertEqual(saying_text(("plus", ("step", -1), ("step", -20))), "(e-1 + e-20)")

    def test_leads_back(self):
        chance = chance_of("saying texts")
        for _ in range(600):
            saying = some_saying(chance, chance.choice((0, 1, 5, 40)), chance.randint(1, 40), 10,
                                 chance.choice((1, 3, 50)))
            self.assertEqual(read_saying(saying_text(saying)), saying)

    def test_of_what_was_told(self):
        chance = chance_of("long texts")
        kind = Kind([1, -1, 1, -1, 1])
        for one in (full_sum(chance, 5, 110), times(kind, full_sum(chance, 5, 110), full_sum(chance, 5, 110))):
            saying = kept_saying(one)
            self.assertEqual(read_saying(saying_text(saying)), saying)
        saying = ("step", 3)
        for _ in range(3000):
            saying = ("back", ("plus", saying, ("number", (1, 2))))
        self.assertIs(are_same(read_saying(saying_text(saying)), saying), True)

    def refused(self, text, at):
        with self.assertRaises(NoText) as caught:
            read_saying(text)
        self.assertEqual(caught.exception.at, at, text)

    def test_how_far_a_text_may_be_read(self):
        for text, at in (("", 0), (" ", 0), ("a", 0), ("+", 0), (")", 0), ("/", 0), ("*", 0), ("-", 1), ("--1", 1),
                         ("-0", 1), ("-e0", 1), ("0/", 1), ("0/5", 1), ("00", 1), ("01", 1), ("2/4", 3), ("2/41 ", 4),
                         ("2/", 2), ("2/0", 2), ("2/01", 2), ("2/1", 3), ("2/1)", 3), ("1/1", 3), ("10/4", 4),
                         ("10/4 ", 4), ("-2/4", 4), ("2/-3", 2), ("2/3/4", 3), ("2//3", 2), ("e", 1), ("e-1", 1),
                         ("e01", 2), ("e0 ", 2), ("e0e1", 2), ("e1/2", 2), ("ee", 1), ("1 ", 1), ("1 + 2", 1),
                         ("1e0", 1), ("3 e0", 1), ("~", 1), ("~~", 2), ("~ e0", 1), ("~)", 1), ("(", 1), ("()", 1),
                         ("( 1 + 2)", 1), ("(1)", 2), ("(1", 2), ("(1 ", 3), ("(1 +", 4), ("(1 + ", 5), ("(1 + 2", 6),
                         ("(1+2)", 2), ("(1 +2)", 4), ("(1 - 2)", 3), ("(1  + 2)", 3), ("(1 +  2)", 5),
                         ("(1 + 2 )", 6), ("(1 + 2 + 3)", 6), ("(1 + 2))", 7), ("(1 + 2) ", 7), ("(1 + 2)~", 7),
                         ("(2/4 + 1)", 4), ("(1 + 2/4)", 8), ("(1 + 0/4)", 6), ("((1 + 2) 3)", 9), ("((1 + 2)* 3)", 8),
                         ("(~(e0 * 5", 9), ("(1 ~ 2)", 3), ("e+", 1), ("(e0 * e)", 7), ("~2/6~", 4),
                         ("(1/3 * 3/9)", 10), ("(3/9 * 1)", 4), ("(33/99", 6), ("(1 +\t2)", 4), ("~(e0 + )", 7)):
            self.refused(text, at)
            self.assertEqual(slow_at(text), at, text)

    def test_changed_texts(self):
        chance = chance_of("changed sayings")
        seen = set()
        for _ in range(60):
            for text in changed_texts(chance, saying_text(some_saying(chance, 3, chance.randint(1, 16), 7)), 40):
                at = slow_at(text)
                seen.add(at is None)
                if at is None:
                    self.assertEqual(saying_text(read_saying(text)), text)
                else:
                    self.refused(text, at)
        self.assertEqual(seen, {True, False})

    def test_many_open_at_once(self):
        self.refused("(" * 10, 10)
        self.refused("~(" * 5 + "e0", 12)
        self.assertEqual(read_saying("~" * 10 + "e7")[1][1][0], "back")
        saying = read_saying("(1 + " * 10 + "e0" + ")" * 10)
        self.assertEqual(dict(all_places(saying))[(1,) * 10], ("step", 0))
        self.refused("(1 + " * 10 + "e0" + ")" * 11, 62)
        self.refused("(1 + " * 10 + "e0" + ")" * 9, 61)


class NumbersTest(unittest.TestCase):
    def test_read_fraction(self):
        chance = chance_of("fraction texts")
        for text, fraction in (("0", (0, 1)), ("5", (5, 1)), ("-5", (-5, 1)), ("1/2", (1, 2)), ("-10/3", (-10, 3))):
            self.assertEqual(read_fraction(text), fraction)
        for text in ("", "2/4", "2/1", "0/1", "0/5", "-0", "01", "1/02", "1/0", "1/-2", "+1", "1/", "/1", "1/2/3", "a",
                     "1 "):
            self.assertIsNone(read_fraction(text))
        for _ in range(50):
            top, bottom = some_fraction(chance, 50)
            self.assertEqual(read_fraction(f"{top}/{bottom}" if bottom > 1 else str(top)), (top, bottom))

    def test_read_whole(self):
        for number in (0, 1, -1, 10, 10 ** 49, -(10 ** 50) + 1):
            self.assertEqual(read_whole(str(number)), number)
        for text in ("", "-", "-0", "00", "01", "+1", "1/1", "1 ", " 1", "a", "--1", "1-"):
            self.assertIsNone(read_whole(text))


if __name__ == "__main__":
    unittest.main()
