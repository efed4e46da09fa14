"""Slow, plain reckoning by the words of the document, and inputs for the tests."""

import itertools
import random
from fractions import Fraction

from signsteps.kinds import Kind
from signsteps.mirrors import mirror_table, put_behind

ALL_SQUARES = [list(row) for count in range(6) for row in itertools.product((1, -1, 0), repeat=count)]
SOME_SQUARES = [[], [1], [-1], [0], [1, -1], [0, 1], [-1, 0], [1, -1, 0], [-1, -1, -1],
                [0, 0, 1, -1], [1, 1, 1, 1], [-1, 0, 1, 0, -1], [1, -1, 1, -1, 1], [0, 0, 0, 0, 0]]
FULL_SQUARES = [row for row in ALL_SQUARES if all(row)]
ONE = (((), (1, 1)),)


def all_products(count):
    return sorted(steps for many in range(count + 1) for steps in itertools.combinations(range(count), many))


def slow_order(squares, steps):
    """Exchange or put out the first two neighbours that are not rising, until there are none."""
    steps, number = list(steps), 1
    at = 0
    while at + 1 < len(steps):
        if steps[at] < steps[at + 1]:
            at += 1
            continue
        if steps[at] == steps[at + 1]:
            number *= squares[steps[at]]
            del steps[at:at + 2]
        else:
            steps[at], steps[at + 1] = steps[at + 1], steps[at]
            number = -number
        at = 0
    return number, tuple(steps)


def slow_sum(squares, rows):
    found = {}
    for steps, (top, bottom) in rows:
        number, product = slow_order(squares, steps)
        found[product] = found.get(product, 0) + number * Fraction(top, bottom)
    return tuple((product, (found[product].numerator, found[product].denominator))
                 for product in sorted(found) if found[product] != 0)


def slow_times(squares, one, other, fits=lambda first, second: True):
    rows = []
    for first, (top, bottom) in one:
        for second, (other_top, other_bottom) in other:
            if fits(set(first), set(second)):
                rows.append((first + second, (top * other_top, bottom * other_bottom)))
    return slow_sum(squares, rows)


def slow_plus(one, other):
    """The terms of two sums put together; no two steps meet, so squares do not count."""
    return slow_sum((), [*one, *other])


def pair(value):
    """A fraction of the program, of one of Python's or of a whole number."""
    return (Fraction(value).numerator, Fraction(value).denominator)


def values_of(count, vector):
    """A vector as the list of Python's fractions of the steps."""
    found = {product: Fraction(*fraction) for product, fraction in vector}
    return [found.get((step,), Fraction(0)) for step in range(count)]


def vector_from(values):
    return tuple(((step,), pair(value)) for step, value in enumerate(values) if value != 0)


def slow_dot(squares, one, other):
    return sum(square * first * second for square, first, second in zip(squares, one, other))


def slow_mirrored(squares, mirror, values):
    """x less v taken by twice dot(x, v) divided by the measure of v, for lists of values."""
    by = 2 * slow_dot(squares, values, mirror) / slow_dot(squares, mirror, mirror)
    return [value - by * less for value, less in zip(values, mirror)]


def slow_led(rows, values):
    """Where a table of values leads a list of values."""
    return [sum(value * row[place] for value, row in zip(values, rows)) for place in range(len(rows))]


def unit_values(count, step):
    return [Fraction(int(place == step)) for place in range(count)]


def table_from(rows):
    return [[pair(value) for value in row] for row in rows]


def table_values(table):
    return [[Fraction(*fraction) for fraction in row] for row in table]


def stay(count):
    """The table that leads each step to itself."""
    return table_from([unit_values(count, step) for step in range(count)])


def table_of_mirrors(kind, vectors):
    """Going by all mirrors, the first one first."""
    table = stay(kind.count)
    for vector in vectors:
        table = put_behind(kind, table, mirror_table(kind, vector))
    return table


def some_fraction(chance, figures):
    """A fraction, not nought, with at most so many figures above and below."""
    top = chance.choice((1, -1)) * chance.randrange(1, 10 ** chance.randint(1, figures))
    found = Fraction(top, chance.randrange(1, 10 ** chance.randint(1, figures)))
    return (found.numerator, found.denominator)


def some_sum(chance, count, figures, share=0.6):
    """A sum in which each product stands with this share."""
    return tuple((product, some_fraction(chance, figures))
                 for product in all_products(count) if chance.random() < share)


def full_sum(chance, count, figures):
    return some_sum(chance, count, figures, share=2)


def some_vector(chance, count, figures, share=0.8):
    return tuple(((step,), some_fraction(chance, figures)) for step in range(count) if chance.random() < share)


def some_mirror(chance, squares, figures):
    """A vector whose measure is not nought, of a kind that has such."""
    while True:
        vector = some_vector(chance, len(squares), figures)
        values = values_of(len(squares), vector)
        if slow_dot(squares, values, values) != 0:
            return vector


def some_table(chance, count, figures):
    return [[some_fraction(chance, figures) if chance.random() < 0.7 else (0, 1) for _ in range(count)]
            for _ in range(count)]


def no_sums(count):
    """Tuples that are no sums of a kind with so many steps."""
    return [(((count,), (1, 1)),), (((-1,), (1, 1)),), (((), (2, 4)),), (((), (0, 1)),), (((), (1, -1)),),
            (((), (1, 1)), ((), (1, 1))), (((), (1, 0)),)]


def some_rows(chance, count, many, longest, figures):
    """Rows for sum_of, some with a fraction nought."""
    rows = []
    for _ in range(many):
        steps = tuple(chance.randrange(count) for _ in range(chance.randint(0, longest))) if count else ()
        rows.append((steps, some_fraction(chance, figures) if chance.random() < 0.9 else (0, 1)))
    return rows


def step_sum(step):
    return (((step,), (1, 1)),)


def kinds(rows=None):
    """Each list of squares with its kind."""
    return [(squares, Kind(squares)) for squares in (SOME_SQUARES if rows is None else rows)]


def chance_of(word):
    """The same numbers for the same word, at each run."""
    return random.Random(word)
