"""Whole boards: lists of whole rows, tuples of whole numbers by their columns, none of them nought, and of a bottom.

Each row has a bottom of its own, from 1 on: most of what stands in a step's board is nought, and where it
has long fractions, one bottom for the whole board would be far longer than those of its rows.
"""

from signsteps.fractions import bottom_parts, common_divisor, least_multiple, product_of
from signsteps.wholes import without_noughts


def cut_down(row):
    """A whole row with the least bottom."""
    numbers, bottom = row
    shared = bottom
    for place in numbers:
        if shared == 1:
            break
        shared = common_divisor(numbers[place], shared)
    return {place: numbers[place] // shared for place in numbers}, bottom // shared


def whole_board(board):
    """The whole board of a board of fractions, each row with the least bottom."""
    found = []
    for row in board:
        bottom = product_of(bottom_parts(row))
        found.append(({place: top * (bottom // under) for place, (top, under) in enumerate(row) if top != 0}, bottom))
    return found


def unit_rows(size, number):
    """The whole board of a number times the board of 1."""
    return [({place: number}, 1) for place in range(size)]


def row_times(row, rows):
    """The product of a whole row with whole rows, each taken by the number at its place; not cut down."""
    numbers, bottom = row
    multiple = least_multiple([rows[place][1] for place in numbers])
    found = {}
    for place in numbers:
        others, under = rows[place]
        by = numbers[place] * (multiple // under)
        for column in others:
            found[column] = found.get(column, 0) + by * others[column]
    return without_noughts(found), bottom * multiple


def board_times(one, other):
    """The product of two whole boards."""
    return [cut_down(row_times(row, other)) for row in one]


def has_square(rows, square):
    """Whether a whole board times itself is a number times the board of 1."""
    for place, row in enumerate(rows):
        numbers, bottom = row_times(row, rows)
        if numbers != {place: square * bottom}:
            return False
    return True


def turn_sign(one, other):
    """Whether the products of two whole boards either way about are each other's with the other sign."""
    for first, second in zip(one, other):
        numbers, bottom = row_times(first, other)
        others, under = row_times(second, one)
        if {place: numbers[place] * under for place in numbers} != {place: -others[place] * bottom for place in others}:
            return False
    return True


def product_boards(rows, size, products):
    """The whole boards of these products, and of others on the way to them, by the products."""
    found = {(): unit_rows(size, 1)}
    for product in products:
        for many, step in enumerate(product):
            longer = product[:many + 1]
            if longer not in found:
                found[longer] = board_times(found[product[:many]], rows[step])
    return found


def combined_row(whole, found, place):
    """The row at a place of the board of a whole sum, told the whole boards of its products; not cut down."""
    return row_times((whole, 1), {product: found[product][place] for product in whole})


def trace_of(rows, columns):
    """What stands at the places (k, k) of a product together, of a whole board and of columns of whole numbers.

    It is told as a whole number and the bottom by which it is divided.
    """
    multiple = least_multiple([bottom for numbers, bottom in rows])
    total = 0
    for (numbers, bottom), column in zip(rows, columns):
        total += multiple // bottom * sum([numbers[place] * column[place] for place in numbers])
    return total, multiple
