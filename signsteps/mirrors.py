"""Mirrors of vectors, the tables by which they lead steps, and products of mirrors."""

from signsteps.errors import NoPartner
from signsteps.fractions import all_lowest, multiplied, turned_over
from signsteps.partners import whole_partner
from signsteps.sums import check_sums
from signsteps.tables import check_rows, first_unkept, row_led, table_over, whole_rows
from signsteps.vectors import check_mirrors, check_vectors, mirrored_fractions, row_of, step_row, vector_of
from signsteps.wholes import over_one_bottom, sum_over, taken_by, whole_times


def mirrored(kind, vector, other):
    """The vector to which the mirror of the first vector leads the other."""
    check_sums(kind, (vector, other))
    check_vectors((vector, other))
    mirror = row_of(kind, vector)[0]
    check_mirrors(kind, (mirror,))
    row, parts = row_of(kind, other)
    return vector_of(mirrored_fractions(kind, mirror, row, parts))


def led(kind, table, vector):
    """The vector to which the table leads a vector."""
    check_rows(table, kind.count)
    check_sums(kind, (vector,))
    check_vectors((vector,))
    rows, parts = whole_rows(table)
    row, row_parts = row_of(kind, vector)
    return vector_of(all_lowest(row_led(row, rows), parts + row_parts))


def mirror_table(kind, vector):
    """The table of the mirror of a vector."""
    check_sums(kind, (vector,))
    check_vectors((vector,))
    mirror = row_of(kind, vector)[0]
    check_mirrors(kind, (mirror,))
    return [mirrored_fractions(kind, mirror, step_row(kind, step), []) for step in range(kind.count)]


def put_behind(kind, one, other):
    """The table of going by the one table, then by the other."""
    check_rows(one, kind.count)
    check_rows(other, kind.count)
    first, first_parts = whole_rows(one)
    second, second_parts = whole_rows(other)
    return table_over([row_led(row, second) for row in first], first_parts + second_parts)


def keeps_measure(kind, table):
    """None where the table keeps the dot of each two steps, else the first two for which it does not."""
    check_rows(table, kind.count)
    return first_unkept(kind, table)


def versor_of(kind, vectors):
    """The product of vectors whose measure is not nought, the last one leftmost."""
    check_sums(kind, vectors)
    check_vectors(vectors)
    check_mirrors(kind, [row_of(kind, vector)[0] for vector in vectors])
    return product_backwards(kind, vectors)


def product_backwards(kind, sums):
    """The product of sums, the last one leftmost."""
    product = {(): 1}
    parts = []
    for one in sums:
        whole, more = over_one_bottom(one)
        product = whole_times(kind, whole, product)
        parts = parts + more
    return sum_over(product, parts)


def carried_steps(kind, whole, other):
    """For each step the product of a whole sum, the step and another whole sum."""
    return [whole_times(kind, whole_times(kind, whole, {(step,): 1}), other) for step in range(kind.count)]


def carried_table(whole, carried, number):
    """The table of what carried_steps tells of a product of mirrors and its partner taken by a number."""
    is_odd = any([len(product) & 1 == 1 for product in whole])
    sign = -1 if is_odd != (number < 0) else 1
    rows = [[sign * found.get((place,), 0) for place in range(len(carried))] for found in carried]
    return table_over(rows, [abs(number)])


def versor_table(kind, versor):
    """The table of going by all mirrors of which a sum is the product."""
    check_sums(kind, (versor,))
    whole = over_one_bottom(versor)[0]
    other, number = whole_partner(kind, whole)
    if number == 0:
        raise NoPartner(sum_over(other, []))
    return carried_table(whole, carried_steps(kind, whole, other), number)


def alike(kind, one, other):
    """The fraction by which the one sum is the other taken by it, or None."""
    check_sums(kind, (one, other))
    if not one or not other:
        return None
    first, second = over_one_bottom(one)[0], over_one_bottom(other)[0]
    leading = one[0][0]
    by_first, by_second = first[leading], second.get(leading, 0)
    if taken_by(first, by_second) != taken_by(second, by_first):
        return None
    return multiplied(one[0][1], turned_over(other[0][1]))
