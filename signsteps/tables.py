"""Tables of a kind: lists of as many rows as steps, each of as many fractions."""

from signsteps.errors import NoTable
from signsteps.fractions import all_lowest, bottom_parts, product_of
from signsteps.vectors import row_dot


def check_rows(rows, many):
    """Refuse a list of other many rows, or with a row of other many fractions."""
    if len(rows) != many:
        raise NoTable(many)
    for place, row in enumerate(rows):
        if len(row) != many:
            raise NoTable(place)


def whole_rows(table):
    """The rows of a table over one bottom, lists of whole numbers, and the parts of that bottom."""
    parts = bottom_parts([fraction for row in table for fraction in row])
    bottom = product_of(parts)
    return [[top * (bottom // under) for top, under in row] for row in table], parts


def row_led(row, rows):
    """The row to which the whole rows of a table lead a row."""
    return [sum([number * by[place] for number, by in zip(row, rows)]) for place in range(len(rows))]


def table_over(rows, parts):
    """The table of whole rows divided by the product of all parts, each part from 1 on."""
    many = len(rows)
    fractions = all_lowest([number for row in rows for number in row], parts)
    return [fractions[many * place:many * (place + 1)] for place in range(many)]


def first_unkept(kind, table):
    """The first tuple (i, j), i at most j, of steps the dot of which a table does not keep, or None."""
    rows, parts = whole_rows(table)
    bottom = product_of(parts)
    for first in range(kind.count):
        for second in range(first, kind.count):
            awaited = kind.squares[first] * bottom * bottom if first == second else 0
            if row_dot(kind, rows[first], rows[second]) != awaited:
                return (first, second)
    return None
