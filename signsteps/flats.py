"""Flat sums: outer products of vectors, taken by a number."""

from signsteps.errors import NoGrade, NoProduct
from signsteps.fractions import turned_over
from signsteps.meeting import are_apart
from signsteps.owns import products_of
from signsteps.sums import check_sums, is_product, scaled
from signsteps.turning import grades
from signsteps.vectors import vector_of
from signsteps.wholes import over_one_bottom, sum_over, times_where


def grade_of(one):
    """The grade of a sum of a grade; others are refused."""
    found = grades(one)
    if len(found) != 1:
        raise NoGrade("no sum of one grade")
    return found[0]


def row_fraction(terms, product, step):
    """The fraction of a step in the row at a product, of a sum's fractions by their products."""
    below = tuple([other for other in product if other < step])
    top, bottom = terms.get(below + (step,) + product[len(below):], (0, 1))
    return (-top, bottom) if len(below) & 1 == 1 else (top, bottom)


def found_row(kind, one, product):
    """What row_at tells, of a sum of a grade and a product of one step less."""
    terms = {steps: fraction for steps, fraction in one}
    return vector_of([row_fraction(terms, product, step) if step not in product else (0, 1)
                      for step in range(kind.count)])


def row_at(kind, one, product):
    """The row of a sum of a grade at a product of one step less."""
    check_sums(kind, (one,))
    grade = grade_of(one)
    if not is_product(kind, product) or len(product) != grade - 1:
        raise NoProduct("no product of one step less than the grade")
    return found_row(kind, one, product)


def first_slanted(kind, one, grade):
    """The first product at which the row's outer product with the sum is not nought, or None."""
    whole = sum_over(over_one_bottom(one)[0], [])
    for product in products_of(kind):
        if len(product) == grade - 1:
            if times_where(kind, found_row(kind, whole, product), whole, are_apart):
                return product
    return None


def parts_at_first(kind, one):
    """The fraction of a flat sum's first term, and vectors whose outer product, taken by it, is the sum."""
    leading, number = one[0]
    vectors = []
    for place in range(len(leading)):
        row = found_row(kind, one, leading[:place] + leading[place + 1:])
        # Of the first term's steps each row has one, with its number: all but this sign and number is 1.
        by = (-number[0], number[1]) if place & 1 == 1 else number
        vectors.append(scaled(row, turned_over(by)))
    return (number, vectors)


def flat_parts(kind, one):
    """(True, (number, vectors)), the sum being number times the vectors' outer product, or (False, product)."""
    check_sums(kind, (one,))
    slanted = first_slanted(kind, one, grade_of(one))
    if slanted is not None:
        return (False, slanted)
    return (True, parts_at_first(kind, one))
