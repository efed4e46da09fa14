"""Slow, plain reckoning by the words of the document, and inputs for the tests."""

import itertools
import random
from fractions import Fraction

from signsteps.kinds import Kind
from signsteps.mirrors import mirror_table, put_behind

ALL_SQUARES = [list(row) for count in range(6) for row in itertools.product((1, -1, 0), repeat=count)]
SOME_SQUARES = [[], [1], [-1], [0], [1, -1], [0, 1], [-1, 0], [1, -1, 0], [-1, -1, -1],
                [0, 0, 1, -1], [1, 1, 1, 1], [-1, 0, 1, 0, -1], [1, -1, 1, -1, 1], [0, 0, 0, 0, 0]]
FULL_SQUARES = [row for row in ALL_SQUARES if all(row)]
ONE = (((), (1, 1)),)


def all_products(count):
    return sorted(steps for many in range(count + 1) for steps in itertools.combinations(range(count), many))


def slow_order(squares, steps):
    """Exchange or put out the first two neighbours that are not rising, until there are none."""
    steps, number = list(steps), 1
    at = 0
    while at + 1 < len(steps):
        if steps[at] < steps[at + 1]:
            at += 1
            continue
        if steps[at] == steps[at + 1]:
            number *= squares[steps[at]]
            del steps[at:at + 2]
        else:
            steps[at], steps[at + 1] = steps[at + 1], steps[at]
            number = -number
        at = 0
    return number, tuple(steps)


def slow_sum(squares, rows):
    found = {}
    for steps, (top, bottom) in rows:
        number, product = slow_order(squares, steps)
        found[product] = found.get(product, 0) + number * Fraction(top, bottom)
    return tuple((product, (found[product].numerator, found[product].denominator))
                 for product in sorted(found) if found[product] != 0)


def slow_times(squares, one, other, fits=lambda first, second: True):
    rows = []
    for first, (top, bottom) in one:
        for second, (other_top, other_bottom) in other:
            if fits(set(first), set(second)):
                rows.append((first + second, (top * other_top, bottom * other_bottom)))
    return slow_sum(squares, rows)


def slow_plus(one, other):
    """The terms of two sums put together; no two steps meet, so squares do not count."""
    return slow_sum((), [*one, *other])


def pair(value):
    """A fraction of the program, of one of Python's or of a whole number."""
    return (Fraction(value).numerator, Fraction(value).denominator)


def values_of(count, vector):
    """A vector as the list of Python's fractions of the steps."""
    found = {product: Fraction(*fraction) for product, fraction in vector}
    return [found.get((step,), Fraction(0)) for step in range(count)]


def vector_from(values):
    return tuple(((step,), pair(value)) for step, value in enumerate(values) if value != 0)


def slow_dot(squares, one, other):
    return sum(square * first * second for square, first, second in zip(squares, one, other))


def slow_mirrored(squares, mirror, values):
    """x less v taken by twice dot(x, v) divided by the measure of v, for lists of values."""
    by = 2 * slow_dot(squares, values, mirror) / slow_dot(squares, mirror, mirror)
    return [value - by * less for value, less in zip(values, mirror)]


def slow_led(rows, values):
    """Where a table of values leads a list of values."""
    return [sum(value * row[place] for value, row in zip(values, rows)) for place in range(len(rows))]


def unit_values(count, step):
    return [Fraction(int(place == step)) for place in range(count)]


def table_from(rows):
    return [[pair(value) for value in row] for row in rows]


def table_values(table):
    return [[Fraction(*fraction) for fraction in row] for row in table]


def stay(count):
    """The table that leads each step to itself."""
    return table_from([unit_values(count, step) for step in range(count)])


def table_of_mirrors(kind, vectors):
    """Going by all mirrors, the first one first."""
    table = stay(kind.count)
    for vector in vectors:
        table = put_behind(kind, table, mirror_table(kind, vector))
    return table


def some_fraction(chance, figures):
    """A fraction, not nought, with at most so many figures above and below."""
    top = chance.choice((1, -1)) * chance.randrange(1, 10 ** chance.randint(1, figures))
    found = Fraction(top, chance.randrange(1, 10 ** chance.randint(1, figures)))
    return (found.numerator, found.denominator)


def some_sum(chance, count, figures, share=0.6):
    """A sum in which each product stands with this share."""
    return tuple((product, some_fraction(chance, figures))
                 for product in all_products(count) if chance.random() < share)


def full_sum(chance, count, figures):
    return some_sum(chance, count, figures, share=2)


def some_vector(chance, count, figures, share=0.8):
    return tuple(((step,), some_fraction(chance, figures)) for step in range(count) if chance.random() < share)


def some_mirror(chance, squares, figures):
    """A vector whose measure is not nought, of a kind that has such."""
    while True:
        vector = some_vector(chance, len(squares), figures)
        values = values_of(len(squares), vector)
        if slow_dot(squares, values, values) != 0:
            return vector


def some_table(chance, count, figures):
    return [[some_fraction(chance, figures) if chance.random() < 0.7 else (0, 1) for _ in range(count)]
            for _ in range(count)]


def no_sums(count):
    """Tuples that are no sums of a kind with so many steps."""
    return [(((count,), (1, 1)),), (((-1,), (1, 1)),), (((), (2, 4)),), (((), (0, 1)),), (((), (1, -1)),),
            (((), (1, 1)), ((), (1, 1))), (((), (1, 0)),)]


def some_rows(chance, count, many, longest, figures):
    """Rows for sum_of, some with a fraction nought."""
    rows = []
    for _ in range(many):
        steps = tuple(chance.randrange(count) for _ in range(chance.randint(0, longest))) if count else ()
        rows.append((steps, some_fraction(chance, figures) if chance.random() < 0.9 else (0, 1)))
    return rows


def step_sum(step):
    return (((step,), (1, 1)),)


def kinds(rows=None):
    """Each list of squares with its kind."""
    return [(squares, Kind(squares)) for squares in (SOME_SQUARES if rows is None else rows)]


def chance_of(word):
    """The same numbers for the same word, at each run."""
    return random.Random(word)


def slow_board_times(one, other):
    """The product of two boards of Python's fractions; noughts are passed over."""
    columns = [list(column) for column in zip(*other)]
    return [[sum((first * second for first, second in zip(row, column) if first and second), Fraction(0))
             for column in columns] for row in one]


def slow_unit(size):
    return [unit_values(size, place) for place in range(size)]


def slow_board_of(boards, one):
    """The board of a sum, term by term."""
    size = len(boards[0])
    total = [[Fraction(0)] * size for _ in range(size)]
    for product, fraction in one:
        board = slow_unit(size)
        for step in product:
            board = slow_board_times(board, table_values(boards[step]))
        total = [[old + Fraction(*fraction) * new for old, new in zip(row, line)] for row, line in zip(total, board)]
    return table_from(total)


def board_fractions(boards):
    return [fraction for board in boards for row in board for fraction in row]


def changed_by(boards, shears):
    """Boards that multiply as these do: row i gets row j times by, column j loses column i times by, for each shear."""
    found = []
    for board in boards:
        rows = table_values(board)
        for i, j, by in shears:
            rows[i] = [first + by * second for first, second in zip(rows[i], rows[j])]
            for row in rows:
                row[j] -= by * row[i]
        found.append(table_from(rows))
    return found


def some_shears(chance, size, many, numbers):
    return [(*chance.sample(range(size), 2), Fraction(*chance.choice(numbers))) for _ in range(many if size > 1 else 0)]


def some_saying(chance, count, many, deepest, figures=2):
    """A saying with at most so many tuples in it, of at most this depth."""
    if many == 1 or deepest == 1:
        if count and chance.random() < 0.6:
            return ("step", chance.randrange(count))
        return ("number", chance.choice([(0, 1), (1, 1), (-1, 1), some_fraction(chance, figures)]))
    if many == 2 or chance.random() < 0.12:
        return ("back", some_saying(chance, count, many - 1, deepest - 1, figures))
    first = chance.randint(1, many - 2)
    return (chance.choice(("plus", "times", "times")), some_saying(chance, count, first, deepest - 1, figures),
            some_saying(chance, count, many - 1 - first, deepest - 1, figures))


def slow_worth(squares, saying):
    word, *inner = saying
    if word == "number":
        return slow_sum(squares, [((), inner[0])])
    if word == "step":
        return slow_sum(squares, [((inner[0],), (1, 1))])
    worths = [slow_worth(squares, other) for other in inner]
    if word == "plus":
        return slow_plus(*worths)
    if word == "times":
        return slow_times(squares, *worths)
    return slow_sum(squares, [(product[::-1], fraction) for product, fraction in worths[0]])


def all_places(saying, place=()):
    """All places in a saying with what stands there."""
    found = [(place, saying)]
    if saying[0] in ("plus", "times", "back"):
        for number, inner in enumerate(saying[1:]):
            found += all_places(inner, place + (number,))
    return found


def put_at(saying, place, made):
    if not place:
        return made
    parts = list(saying)
    parts[place[0] + 1] = put_at(parts[place[0] + 1], place[1:], made)
    return tuple(parts)


def row_saying(word, sayings):
    """Sayings joined by a word, the last two first."""
    found = sayings[-1]
    for saying in sayings[-2::-1]:
        found = (word, saying, found)
    return found


# Both sides of each rule, by the document's words: a, b, c are sayings, p, q numbers, i, j unlike steps.
RULE_SIDES = {
    "turn": (("plus", "a", "b"), ("plus", "b", "a")),
    "move": (("plus", ("plus", "a", "b"), "c"), ("plus", "a", ("plus", "b", "c"))),
    "join": (("times", ("times", "a", "b"), "c"), ("times", "a", ("times", "b", "c"))),
    "left": (("times", "a", ("plus", "b", "c")), ("plus", ("times", "a", "b"), ("times", "a", "c"))),
    "right": (("times", ("plus", "a", "b"), "c"), ("plus", ("times", "a", "c"), ("times", "b", "c"))),
    "add": (("plus", "p", "q"), "p+q"),
    "by": (("times", "p", "q"), "pq"),
    "through": (("times", "a", "p"), ("times", "p", "a")),
    "one": (("times", "1", "a"), "a"),
    "none": (("plus", "0", "a"), "a"),
    "nought": (("times", "0", "a"), "0"),
    "square": (("times", "i", "i"), "ii"),
    "swap": (("times", "i", "j"), ("times", "-1", ("times", "j", "i"))),
    "over": (("back", ("plus", "a", "b")), ("plus", ("back", "a"), ("back", "b"))),
    "about": (("back", ("times", "a", "b")), ("times", ("back", "b"), ("back", "a"))),
    "still": (("back", "leaf"), "leaf"),
}
LOST_NAMES = {"add": "pq", "by": "pq", "nought": "a", "square": "i"}


def number_saying(value):
    return ("number", pair(value))


def rule_made(squares, side, names):
    """The saying that a side of a rule is for what stands for the names."""
    if isinstance(side, tuple):
        return (side[0], *(rule_made(squares, inner, names) for inner in side[1:]))
    if side in ("0", "1", "-1"):
        return number_saying(int(side))
    if side == "p+q":
        return number_saying(Fraction(*names["p"][1]) + Fraction(*names["q"][1]))
    if side == "pq":
        return number_saying(Fraction(*names["p"][1]) * Fraction(*names["q"][1]))
    return number_saying(squares[names["i"][1]]) if side == "ii" else names[side]


def rule_fits(side, saying, names):
    """Whether a saying is a side of a rule; what stands for the names is put to them."""
    if isinstance(side, tuple):
        return (saying[0] == side[0] and len(saying) == len(side)
                and all(rule_fits(inner, other, names) for inner, other in zip(side[1:], saying[1:])))
    if side in ("0", "1", "-1"):
        return saying == number_saying(int(side))
    if side in "pq" and saying[0] != "number" or side in "ij" and saying[0] != "step":
        return False
    if side == "leaf" and saying[0] not in ("number", "step"):
        return False
    if side in names:
        return names[side] == saying
    if side in "ij" and saying in [names.get("i"), names.get("j")]:
        return False
    names[side] = saying
    return True


def is_right_more(squares, rule, more):
    """Whether more has what the rule asks for, going back."""
    if rule in ("add", "by"):
        return len(more) == 2 and all(isinstance(one, tuple) and len(one) == 2 and isinstance(one[0], int)
                                      and one[1] >= 1 and pair(Fraction(*one)) == one for one in more)
    if len(more) != 1:
        return False
    if rule == "square":
        return isinstance(more[0], int) and 0 <= more[0] < len(squares)
    return isinstance(more[0], tuple) and isinstance(more[0][0], str) and all(
        0 <= saying[1] < len(squares) if saying[0] == "step" else
        saying[0] != "number" or is_right_more(squares, "add", saying[1:] * 2) for place, saying in all_places(more[0]))


def slow_exchanged(squares, saying, rule, way, more):
    """The saying that a rule makes of one, or None."""
    if rule not in RULE_SIDES or way not in ("there", "back"):
        return None
    there, back = RULE_SIDES[rule]
    names = {}
    if way == "there":
        return rule_made(squares, back, names) if more == () and rule_fits(there, saying, names) else None
    if rule not in LOST_NAMES:
        return rule_made(squares, there, names) if more == () and rule_fits(back, saying, names) else None
    if not is_right_more(squares, rule, more):
        return None
    word = {"add": "number", "by": "number", "square": "step"}.get(rule)
    names = {name: (word, one) if word else one for name, one in zip(LOST_NAMES[rule], more)}
    return rule_made(squares, there, names) if rule_made(squares, back, names) == saying else None


def slow_stepped(squares, saying, step):
    """The saying that comes of one by a step, or None."""
    place, rule, way, more = step
    inner = dict(all_places(saying)).get(place)
    made = None if inner is None else slow_exchanged(squares, inner, rule, way, more)
    return None if made is None else put_at(saying, place, made)


def slow_ends(squares, saying, paper):
    for step in paper:
        saying = slow_stepped(squares, saying, step)
        assert saying is not None, step
    return saying


def fitting_saying(chance, squares, rule, way):
    """A saying to which a rule fits, this or that way, and what it must be told."""
    names = {name: some_saying(chance, len(squares), chance.randint(1, 5), 4) for name in "abc"}
    names.update({name: ("number", some_fraction(chance, 2)) for name in "pq"})
    steps = chance.sample(range(len(squares)), min(2, len(squares)))
    names.update({name: ("step", step) for name, step in zip("ij", steps)})
    names["leaf"] = chance.choice([names[name] for name in "pqij" if name in names])
    if rule in ("square", "swap") and len(steps) < 2:
        return None
    lost = LOST_NAMES.get(rule, "") if way == "back" else ""
    more = tuple(names[name] if name == "a" else names[name][1] for name in lost)
    return rule_made(squares, RULE_SIDES[rule][way == "back"], names), more
