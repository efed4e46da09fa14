"""Outer and inner products, the number in a sum, and the dot of two vectors."""

from signsteps.fractions import lowest
from signsteps.sums import check_sums
from signsteps.vectors import check_vectors, row_dot, row_of
from signsteps.wholes import times_where


def are_apart(first, second):
    """Whether two products have no step in common."""
    return not any([step in second for step in first])


def is_within(first, second):
    """Whether all steps of the first product stand in the second."""
    return all([step in second for step in first])


def outer(kind, one, other):
    """The sum of the products of those two terms that have no step in common."""
    check_sums(kind, (one, other))
    return times_where(kind, one, other, are_apart)


def inner(kind, one, other):
    """The sum of the products of those two terms of which all steps of the first's stand in the second's."""
    check_sums(kind, (one, other))
    return times_where(kind, one, other, is_within)


def number_of(one):
    """The fraction of the sum's empty product."""
    for product, fraction in one:
        if product == ():
            return fraction
    return (0, 1)


def dot(kind, one, other):
    """The number that half of the product of two vectors either way about, put together, is."""
    check_sums(kind, (one, other))
    check_vectors((one, other))
    first, first_parts = row_of(kind, one)
    second, second_parts = row_of(kind, other)
    return lowest(row_dot(kind, first, second), first_parts + second_parts)
