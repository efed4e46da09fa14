"""Vectors, sums of steps alone, as rows: lists with a whole number for each step, over one bottom."""

from signsteps.errors import NoMirror, NoVector
from signsteps.fractions import all_lowest
from signsteps.wholes import over_one_bottom


def check_vectors(sums):
    """Refuse the first of these sums that has a term of another grade than 1."""
    for place, one in enumerate(sums):
        if not all([len(product) == 1 for product, fraction in one]):
            raise NoVector(place)


def row_of(kind, vector):
    """The row of a vector over one bottom, and the parts of that bottom."""
    whole, parts = over_one_bottom(vector)
    return [whole.get((step,), 0) for step in range(kind.count)], parts


def vector_of(fractions):
    """The vector with these fractions, one for each step."""
    return tuple([((step,), fraction) for step, fraction in enumerate(fractions) if fraction[0] != 0])


def step_row(kind, step):
    """The row of one step."""
    return [1 if place == step else 0 for place in range(kind.count)]


def row_dot(kind, one, other):
    """The number that half of the product of two rows either way about, put together, is."""
    return sum([square * first * second for square, first, second in zip(kind.squares, one, other)])


def check_mirrors(kind, rows):
    """Refuse the first of these rows whose measure is nought."""
    for place, row in enumerate(rows):
        if row_dot(kind, row, row) == 0:
            raise NoMirror(place)


def mirrored_fractions(kind, mirror, row, parts):
    """The fractions, one for each step, to which the mirror of a row leads a row over a bottom of these parts."""
    measure = row_dot(kind, mirror, mirror)
    twice = 2 * row_dot(kind, row, mirror)
    # The mirror of a vector is that of each multiple of it: its bottom does not count.
    tops = [measure * number - twice * by for number, by in zip(row, mirror)]
    if measure < 0:
        tops = [-top for top in tops]
    return all_lowest(tops, parts + [abs(measure)])
