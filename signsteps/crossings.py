"""Alike kinds: sums of one kind led into sums of another, products going with them."""

from signsteps.errors import NoCross
from signsteps.fractions import product_of
from signsteps.kinds import Kind
from signsteps.sums import check_steps, check_sums, is_rising, sum_of


def turned_squares(kind, steps):
    """The kind in which the squares of these steps have the other sign."""
    return Kind([-square if step in steps else square for step, square in enumerate(kind.squares)])


def put_as(kind, one, stands):
    """The sum of a kind in which each step of the told one is put as the steps that stand for it."""
    rows = []
    for product, fraction in one:
        rows.append((tuple([other for step in product for other in stands(step)]), fraction))
    return sum_of(kind, rows)


def crossed(kind, step):
    """The kind in which the square of each other step has the other sign."""
    check_steps(kind, (step,))
    if kind.squares[step] != 1:
        raise NoCross("a step whose square is not 1")
    return turned_squares(kind, [other for other in range(kind.count) if other != step])


def cross(kind, step, one):
    """The sum of the crossed kind in which each other step stands for itself times the told step."""
    check_sums(kind, (one,))
    return put_as(crossed(kind, step), one, lambda other: (other,) if other == step else (other, step))


def fours(kind, steps):
    """The kind in which the squares of four steps have the other signs."""
    check_steps(kind, steps)
    if len(steps) != 4 or not is_rising(steps) or product_of([kind.squares[step] for step in steps]) != 1:
        raise NoCross("no four steps, rising, whose squares have the product 1")
    return turned_squares(kind, steps)


def cross_four(kind, steps, one):
    """The sum of the kind that fours tells in which each of the four stands for itself times all four."""
    check_sums(kind, (one,))
    return put_as(fours(kind, steps), one, lambda other: (other,) + steps if other in steps else (other,))
