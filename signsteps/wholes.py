"""Whole sums: dicts of whole numbers by their products, none of them nought.

Long reckonings are done with these, over one bottom, and cut down once at the end: a common
divisor for each pair of terms would take far longer where fractions have many figures.
"""

from signsteps.fractions import all_lowest, bottom_parts, content_of, product_of


def in_order(kind, steps):
    """The number (1, -1 or 0) and the product to which steps in any order come."""
    number = 1
    product = []
    for step in steps:
        above = len([behind for behind in product if behind > step])
        if above & 1:
            number = -number
        place = len(product) - above
        if step in product:
            number *= kind.squares[step]
            del product[place - 1]
        else:
            product.insert(place, step)
    return number, tuple(product)


def over_one_bottom(one):
    """A sum as the whole sum of its tops over one bottom, and the parts of that bottom."""
    parts = bottom_parts([fraction for product, fraction in one])
    bottom = product_of(parts)
    return {product: fraction[0] * (bottom // fraction[1]) for product, fraction in one}, parts


def sum_over(whole, parts):
    """The sum that a whole sum divided by the product of all parts is, each part from 1 on."""
    products = sorted(whole)
    fractions = all_lowest([whole[product] for product in products], parts)
    return tuple(zip(products, fractions))


def without_noughts(found):
    """The whole sum of numbers by their products, some of them perhaps nought."""
    return {product: found[product] for product in found if found[product] != 0}


def taken_by(whole, number):
    """A whole sum with each term taken by a number; noughts stay where the number is nought."""
    return {product: whole[product] * number for product in whole}


def primitive(whole):
    """A whole sum divided by the greatest common divisor of its numbers."""
    content = content_of([whole[product] for product in whole])
    return {product: whole[product] // content for product in whole}


def any_two(first, second):
    """The choice of all pairs of products."""
    return True


def whole_times_where(kind, one, other, fits):
    """The sum of the products of those two terms of two whole sums whose products fit."""
    found = {}
    for first in one:
        for second in other:
            if fits(first, second):
                number, product = in_order(kind, first + second)
                found[product] = found.get(product, 0) + number * one[first] * other[second]
    return without_noughts(found)


def whole_times(kind, one, other):
    """The product of two whole sums."""
    return whole_times_where(kind, one, other, any_two)


def times_where(kind, one, other, fits):
    """The sum of the products of those two terms of two sums whose products fit."""
    first, first_parts = over_one_bottom(one)
    second, second_parts = over_one_bottom(other)
    return sum_over(whole_times_where(kind, first, second, fits), first_parts + second_parts)
