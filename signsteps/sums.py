"""Sums: tuples of terms (product, fraction), products rising, no fraction nought."""

from signsteps.errors import NoStep, NoSum
from signsteps.fractions import added, are_lowest, is_pair, lowest, multiplied
from signsteps.kinds import is_step
from signsteps.wholes import any_two, in_order, times_where


def is_rising(things):
    """Whether each of these is less than the next one."""
    return all([one < other for one, other in zip(things, things[1:])])


def is_product(kind, steps):
    """Whether this is a product of the kind: a tuple of its steps, rising."""
    if not isinstance(steps, tuple) or not all([is_step(kind, step) for step in steps]):
        return False
    return is_rising(steps)


def is_term(kind, term):
    """Whether this may stand in a sum of the kind, if its fraction is in lowest terms."""
    if not isinstance(term, tuple) or len(term) != 2:
        return False
    product, fraction = term
    return is_product(kind, product) and is_pair(fraction) and fraction[0] != 0


def is_sum(kind, terms):
    """Whether this is a sum of the kind."""
    if not isinstance(terms, tuple) or not all([is_term(kind, term) for term in terms]):
        return False
    if not is_rising([product for product, fraction in terms]):
        return False
    return are_lowest([fraction for product, fraction in terms])


def check_sums(kind, sums):
    """Refuse the first of these that is no sum of the kind."""
    for one in sums:
        if not is_sum(kind, one):
            raise NoSum("no sum of the kind")


def check_steps(kind, steps):
    """Refuse the first number that is no step of the kind."""
    for step in steps:
        if not is_step(kind, step):
            raise NoStep(step)


def put_to(found, product, fraction):
    """Put a term to those that were found, fractions by their products."""
    found[product] = added(found.get(product, (0, 1)), fraction)


def sum_from_found(found):
    """The sum of terms that were found, fractions by their products."""
    return tuple([(product, found[product]) for product in sorted(found) if found[product][0] != 0])


def sum_of(kind, terms):
    """The sum to which terms with steps in any order come."""
    for steps, fraction in terms:
        check_steps(kind, steps)
    found = {}
    for steps, fraction in terms:
        number, product = in_order(kind, steps)
        put_to(found, product, lowest(number * fraction[0], (fraction[1],)))
    return sum_from_found(found)


def plus(one, other):
    """The sum of two sums of one kind."""
    found = {product: fraction for product, fraction in one}
    for product, fraction in other:
        put_to(found, product, fraction)
    return sum_from_found(found)


def minus(one, other):
    """The first of two sums of one kind less the second."""
    return plus(one, scaled(other, (-1, 1)))


def scaled(one, fraction):
    """The sum with each term taken by the fraction."""
    if fraction[0] == 0:
        return ()
    return tuple([(product, multiplied(number, fraction)) for product, number in one])


def times(kind, one, other):
    """The product of two sums of the kind."""
    check_sums(kind, (one, other))
    return times_where(kind, one, other, any_two)
