"""Tables and sums taken apart into mirrors."""

from signsteps.errors import NoKeep
from signsteps.fractions import content_of, product_of
from signsteps.kinds import check_full
from signsteps.mirrors import alike, carried_steps, carried_table, versor_of
from signsteps.partners import whole_partner
from signsteps.sums import check_sums
from signsteps.tables import check_rows, first_unkept, whole_rows
from signsteps.turning import grades
from signsteps.vectors import mirrored_fractions, row_dot, step_row, vector_of
from signsteps.wholes import over_one_bottom, sum_over


def shortest(row):
    """The multiple of a row, not nought, with the shortest whole numbers."""
    content = content_of(row)
    return [number // content for number in row]


def mirrors_between(kind, row, bottom, step):
    """The rows of the mirrors, none to two, that lead a row over a bottom to a step of the same measure."""
    goal = [bottom * number for number in step_row(kind, step)]
    less = [one - other for one, other in zip(row, goal)]
    if not any(less):
        return []
    if row_dot(kind, less, less) != 0:
        return [shortest(less)]
    # The measures of both together and of the difference come to four times that of the step.
    both = [one + other for one, other in zip(row, goal)]
    return [shortest(both), step_row(kind, step)]


def mirrored_row(kind, mirror, row):
    """The row of fractions to which a mirror leads a row of fractions."""
    whole, parts = whole_rows([row])
    return mirrored_fractions(kind, mirror, whole[0], parts)


def undoing_mirrors(kind, table):
    """The rows of mirrors by which all steps are led back from where a table leads them, the first one first."""
    undoing = []
    behind = list(table)
    for step in range(kind.count):
        whole, parts = whole_rows(behind[:1])
        # None of the next mirrors moves the steps that were led back already.
        behind = behind[1:]
        for mirror in mirrors_between(kind, whole[0], product_of(parts), step):
            behind = [mirrored_row(kind, mirror, row) for row in behind]
            undoing.append(mirror)
    return undoing


def mirrors_of_table(kind, table):
    """The vectors of mirrors that make a table which keeps the measure, the first one first."""
    # Each mirror is undone by itself: what leads back is gone the other way about.
    return [vector_of([(number, 1) for number in row]) for row in undoing_mirrors(kind, table)[::-1]]


def taken_apart(kind, table):
    """Vectors such that going by all their mirrors, the first one first, is the table."""
    check_rows(table, kind.count)
    check_full(kind)
    unkept = first_unkept(kind, table)
    if unkept is not None:
        raise NoKeep(unkept)
    return mirrors_of_table(kind, table)


def mixed_grades(one):
    """The least even and the least odd grade of a sum that has both, else None."""
    even = [grade for grade in grades(one) if grade & 1 == 0]
    odd = [grade for grade in grades(one) if grade & 1 == 1]
    return (even[0], odd[0]) if even and odd else None


def first_astray(carried):
    """The first step that is carried to no vector, and the least grade other than 1 there; None if there is none."""
    for step, whole in enumerate(carried):
        others = [len(product) for product in whole if len(product) != 1]
        if others:
            return (step, min(others))
    return None


def mirrors_of(kind, one):
    """(True, (number, vectors)), the sum being number times the vectors' product, or (False, word, shown)."""
    check_full(kind)
    check_sums(kind, (one,))
    whole = over_one_bottom(one)[0]
    other, number = whole_partner(kind, whole)
    if number == 0:
        return (False, "nought", sum_over(other, []))
    mixed = mixed_grades(one)
    if mixed is not None:
        return (False, "mixed", mixed)
    carried = carried_steps(kind, whole, other)
    astray = first_astray(carried)
    if astray is not None:
        return (False, "step", astray)
    vectors = mirrors_of_table(kind, carried_table(whole, carried, number))
    return (True, (alike(kind, one, versor_of(kind, vectors)), vectors))
