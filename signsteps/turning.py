"""Grades and parts of sums, and sums turned about."""


def grades(one):
    """The list of the grades of the sum's terms, rising, each once."""
    return sorted({len(product) for product, fraction in one})


def part(one, grade):
    """The sum of the terms of this grade."""
    return tuple([(product, fraction) for product, fraction in one if len(product) == grade])


def turned_where(one, is_turned):
    """The sum with the sign of those terms turned whose grade is_turned tells so."""
    return tuple([(product, (-top, bottom) if is_turned(len(product)) else (top, bottom))
                  for product, (top, bottom) in one])


def back(one):
    """The sum with the steps of each term put the other way about."""
    # g (g - 1) / 2 is odd just where the rest of g by 4 is 2 or 3.
    return turned_where(one, lambda grade: grade & 2 != 0)


def flipped(one):
    """The sum with each step put as less itself."""
    return turned_where(one, lambda grade: grade & 1 != 0)
