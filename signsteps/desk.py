"""A desk that keeps a kind, and sums by names, and answers lines."""

from signsteps.errors import NoKind, NoLine, NoName, NoSquare, NoText, NoUndo, NoWord
from signsteps.figures import read_fraction, read_whole
from signsteps.kinds import Kind
from signsteps.meeting import inner, outer
from signsteps.mirrors import mirrored
from signsteps.partners import partner, quotient
from signsteps.sayings import worth
from signsteps.sums import minus, plus, scaled, times
from signsteps.texts import read_saying, read_sum, sum_text
from signsteps.turning import back, flipped, part

# By the first word of a line: the least and the most words that it has, None for any number.
MANY_WORDS = {
    "kind": (1, 6),
    "put": (3, None),
    "plus": (4, 4),
    "minus": (4, 4),
    "times": (4, 4),
    "outer": (4, 4),
    "inner": (4, 4),
    "over": (4, 4),
    "mirror": (4, 4),
    "scale": (4, 4),
    "part": (4, 4),
    "back": (3, 3),
    "flipped": (3, 3),
    "partner": (2, 2),
    "show": (2, 2),
    "drop": (2, 2),
    "all": (1, 1),
    "worth": (2, None),
    "undo": (1, 1),
}

# From this word on the rest of such a line is one text, of which blanks are a part.
TEXT_FROM = {"put": 2, "worth": 1}

WITH_TWO_NAMES = ("plus", "minus", "times", "outer", "inner", "over", "mirror")
WITH_ONE_NAME = ("scale", "part", "back", "flipped")

SQUARES = {"1": 1, "-1": -1, "0": 0}
LONGEST_NAME = 8


def check_line(words):
    """Refuse what is no line by its first word and by how many words it has, or has a word without signs."""
    if words[0] not in MANY_WORDS:
        raise NoLine("no word of a desk")
    least, most = MANY_WORDS[words[0]]
    if len(words) < least or (most is not None and len(words) > most):
        raise NoLine("too few or too many words")
    if "" in words[:TEXT_FROM.get(words[0], len(words))]:
        raise NoLine("a word without signs")


def read_squares(words):
    """The list of squares that these words are."""
    for place, word in enumerate(words):
        if word not in SQUARES:
            raise NoSquare(place)
    return [SQUARES[word] for word in words]


def check_name(word):
    """Refuse what is no name that a sum can have."""
    if not 1 <= len(word) <= LONGEST_NAME or not all(["a" <= letter <= "z" for letter in word]):
        raise NoWord("no name of one to eight small letters")


def text_in(words):
    """The text that stands at the end of a line."""
    return " ".join(words[TEXT_FROM[words[0]]:])


def made_of_two(kind, word, one, other):
    """The sum that a line with two names makes of their sums."""
    match word:
        case "plus":
            return plus(one, other)
        case "minus":
            return minus(one, other)
        case "times":
            return times(kind, one, other)
        case "outer":
            return outer(kind, one, other)
        case "inner":
            return inner(kind, one, other)
        case "over":
            return quotient(kind, one, other)
    return mirrored(kind, other, one)


def made_of_one(words, one):
    """The sum that a line with one name behind the new one makes of its sum."""
    if words[0] == "back":
        return back(one)
    if words[0] == "flipped":
        return flipped(one)
    told = read_whole(words[3]) if words[0] == "part" else read_fraction(words[3])
    if told is None:
        raise NoText(3)
    return part(one, told) if words[0] == "part" else scaled(one, told)


class Desk:
    """A kind, at first none, and sums by names."""

    def __init__(self):
        self.kind = None
        self.sums = {}
        # What was there ahead of each line that may be taken back: (name, sum or None), or (None, (kind, sums)).
        self.former = []

    def tell(self, line):
        """The answer to a line."""
        words = line.split(" ")
        check_line(words)
        if words[0] == "kind":
            return self.begin(read_squares(words[1:]))
        if words[0] == "undo":
            return self.undo()
        if self.kind is None:
            raise NoKind("no kind yet")
        if words[0] == "put" or words[0] in WITH_TWO_NAMES or words[0] in WITH_ONE_NAME:
            check_name(words[1])
            return self.put(words[1], self.made(words))
        if words[0] == "all":
            return " ".join(sorted(self.sums)) if self.sums else "none"
        if words[0] == "worth":
            return sum_text(worth(self.kind, read_saying(text_in(words))))
        return self.tell_of(words[0], words[1])

    def begin(self, squares):
        """Take a new kind; all sums are gone."""
        kind = Kind(squares)
        self.former.append((None, (self.kind, self.sums)))
        self.kind = kind
        self.sums = {}
        return "kind"

    def undo(self):
        """Take back what the last line changed."""
        if not self.former:
            raise NoUndo("nothing to take back")
        name, before = self.former.pop()
        if name is None:
            self.kind, self.sums = before
        elif before is None:
            del self.sums[name]
        else:
            self.sums[name] = before
        return "undo"

    def sum_by(self, name):
        """The sum that stands by a name."""
        if name not in self.sums:
            raise NoName(name)
        return self.sums[name]

    def made(self, words):
        """The sum that a line makes."""
        if words[0] == "put":
            return read_sum(self.kind, text_in(words))
        one = self.sum_by(words[2])
        if words[0] in WITH_ONE_NAME:
            return made_of_one(words, one)
        return made_of_two(self.kind, words[0], one, self.sum_by(words[3]))

    def put(self, name, one):
        """Let a sum stand by a name."""
        self.former.append((name, self.sums.get(name)))
        self.sums[name] = one
        return sum_text(one)

    def tell_of(self, word, name):
        """The answer to a line that shows, drops, or tells the partner of the sum that stands by a name."""
        one = self.sum_by(name)
        if word == "show":
            return sum_text(one)
        if word == "drop":
            self.former.append((name, one))
            del self.sums[name]
            return name
        is_there, other = partner(self.kind, one)
        return "one " + sum_text(other) if is_there else "nought"
