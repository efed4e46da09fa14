"""Partners: sums with the product 1, or sums that make nought."""

from signsteps.errors import NoPartner
from signsteps.fractions import product_of
from signsteps.sums import check_sums
from signsteps.wholes import any_two, over_one_bottom, primitive, sum_over, taken_by, times_where
from signsteps.wholes import whole_times, whole_times_where

# By the count of steps: a sum times itself with the signs of the first grades turned, this times
# itself with the signs of the next grades turned, and so on, comes to a number at the end.
TURNED_GRADES = (
    (),
    ((1, 2, 5),),
    ((1, 2, 5),),
    ((1, 2, 5), (3,)),
    ((1, 2, 5), (3, 4)),
    ((1, 2, 5), (3,), (1, 4)),
)

# By the count of steps: the degree of an equation that each sum fulfils.
DEGREES = (1, 2, 2, 4, 4, 8)


def turned_at(whole, grades):
    """The whole sum with the signs of the terms of these grades turned."""
    return {product: -whole[product] if len(product) in grades else whole[product] for product in whole}


def is_number(whole):
    """Whether a whole sum has no other product than the empty one."""
    return all([product == () for product in whole])


def made_number(kind, whole):
    """A whole sum, perhaps nought, the product of which with a whole sum is a number."""
    product = whole
    other = {(): 1}
    for grades in TURNED_GRADES[kind.count]:
        if is_number(product):
            break
        # Multiples serve as well, and these have the shortest numbers.
        product = primitive(product)
        factor = turned_at(product, grades)
        product = whole_times(kind, product, factor)
        other = primitive(whole_times(kind, other, factor))
    return other


def made_nought(kind, whole):
    """A whole sum, not nought, that makes nought with a whole sum without a partner.

    The coefficients of the equation that the sum fulfils are told by the numbers in its powers. Where
    the last ones are nought, the sum times what the equation has without them comes to nought at last.
    """
    degree = DEGREES[kind.count]
    other = {(): 1}
    for power in range(1, degree + 1):
        following = whole_times(kind, whole, other)
        number = following.pop((), 0)
        number -= degree * number // power
        if number != 0:
            following[()] = number
        if not following:
            break
        other = following
    return other


def whole_partner(kind, whole):
    """A whole sum, not nought, and the number that its product with a whole sum is.

    The number is nought just where the sum has no partner.
    """
    other = made_number(kind, whole)
    if not other:
        return primitive(made_nought(kind, primitive(whole))), 0
    product = whole_times_where(kind, whole, other, lambda first, second: first == second)
    return other, product.get((), 0)


def found_partner(kind, one):
    """What partner tells, of a sum of the kind."""
    whole, parts = over_one_bottom(one)
    other, number = whole_partner(kind, whole)
    if number == 0:
        return (False, sum_over(other, []))
    bottom = product_of(parts) if number > 0 else -product_of(parts)
    return (True, sum_over(taken_by(other, bottom), [abs(number)]))


def partner(kind, one):
    """(True, the sum whose product with this one is 1), or (False, a sum with which this one makes nought)."""
    check_sums(kind, (one,))
    return found_partner(kind, one)


def quotient(kind, one, other):
    """The sum whose product with the other is the one."""
    check_sums(kind, (one, other))
    is_there, found = found_partner(kind, other)
    if not is_there:
        raise NoPartner(found)
    return times_where(kind, one, found, any_two)
