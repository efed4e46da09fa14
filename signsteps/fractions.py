"""Reckoning with fractions: tuples (top, bottom) in lowest terms, bottom from 1 on."""


def is_whole(number):
    """Whether this is a whole number: an int, but no truth."""
    return isinstance(number, int) and not isinstance(number, bool)


def common_divisor(one, other):
    """The greatest common divisor of two whole numbers, with the sign of the second unless that is 0.

    The first is divided by the second at once: put the one with more figures first.
    """
    while other != 0:
        one, other = other, one % other
    return one


def is_fraction(pair):
    """Whether this is a fraction; nought is (0, 1) alone."""
    if not isinstance(pair, tuple) or len(pair) != 2:
        return False
    top, bottom = pair
    if not is_whole(top) or not is_whole(bottom) or bottom < 1:
        return False
    return common_divisor(top, bottom) == 1


def lowest(top, parts):
    """The fraction that top divided by the product of all parts is.

    It is cut down by one part after the other, since a common divisor with a short number
    is found much sooner than one with the long product of all.
    """
    bottom = 1
    for part in parts:
        shared = common_divisor(top, part)
        top //= shared
        bottom *= part // shared
    return (top, bottom)


def bottom_parts(fractions):
    """Whole numbers above 1 whose product is the least common multiple of the bottoms."""
    parts = []
    multiple = 1
    for fraction in fractions:
        part = fraction[1] // common_divisor(multiple, fraction[1])
        if part > 1:
            parts.append(part)
            multiple *= part
    return parts


def product_of(numbers):
    """The product of whole numbers."""
    product = 1
    for number in numbers:
        product *= number
    return product


def added(one, other):
    """The sum of two fractions."""
    shared = common_divisor(one[1], other[1])
    rest = other[1] // shared
    top = one[0] * rest + other[0] * (one[1] // shared)
    # Both were in lowest terms: what top and the bottom have in common divides shared.
    again = common_divisor(top, shared)
    return (top // again, (one[1] // again) * rest)


def multiplied(one, other):
    """The product of two fractions."""
    # Both are in lowest terms: a top can have divisors in common with the other bottom alone.
    first = common_divisor(one[0], other[1])
    second = common_divisor(other[0], one[1])
    return ((one[0] // first) * (other[0] // second), (one[1] // second) * (other[1] // first))
