"""Reckoning with fractions: tuples (top, bottom) in lowest terms, bottom from 1 on."""

# Numbers of more bits are long: many of Euclid's steps are taken at once, told by as many leading bits.
LONG_BITS = 2000
LEADING_BITS = 60


def is_whole(number):
    """Whether this is a whole number: an int, but no truth."""
    return isinstance(number, int) and not isinstance(number, bool)


def leading_steps(one, other):
    """Euclid's steps that the leading bits of two numbers, the first not less, make sure.

    They lead to a times one and b times other together, and c times one and d times other together;
    told as (a, b, c, d). Each quotient is taken twice, for the least and for the greatest numbers
    that begin so, and counts only where both are one.
    """
    cut = one.bit_length() - LEADING_BITS
    first, second = one >> cut, other >> cut
    a, b, c, d = 1, 0, 0, 1
    while second + c != 0 and second + d != 0:
        quotient = (first + a) // (second + c)
        if quotient != (first + b) // (second + d):
            break
        a, b, c, d = c, d, a - quotient * c, b - quotient * d
        first, second = second, first - quotient * second
    return a, b, c, d


def shortened(one, other):
    """Two numbers with the same common divisors, some of Euclid's steps on."""
    if 0 < other <= one:
        a, b, c, d = leading_steps(one, other)
        if b != 0:
            return a * one + b * other, c * one + d * other
    return other, one % other


def common_divisor(one, other):
    """The greatest common divisor of two whole numbers, with the sign of the second unless that is 0.

    The first is divided by the second at once: put the one with more figures first.
    """
    while other.bit_length() > LONG_BITS:
        one, other = shortened(one, other)
    while other != 0:
        one, other = other, one % other
    return one


def is_pair(pair):
    """Whether this is a tuple (top, bottom) of whole numbers, bottom from 1 on."""
    if not isinstance(pair, tuple) or len(pair) != 2:
        return False
    top, bottom = pair
    return is_whole(top) and is_whole(bottom) and bottom >= 1


def rest_of_product(numbers, divisor):
    """The rest of the product of all numbers but the noughts, divided by a number from 1 on."""
    rest = 1 % divisor
    for number in numbers:
        if number != 0:
            rest = rest * (number % divisor) % divisor
    return rest


def are_lowest(pairs):
    """Whether each of these tuples (top, bottom) is in lowest terms."""
    longest = max([bottom.bit_length() for top, bottom in pairs], default=0)
    if longest <= LONG_BITS:
        return all([common_divisor(top, bottom) == 1 for top, bottom in pairs])
    multiple = product_of(bottom_parts(pairs))
    if multiple.bit_length() > 2 * longest:
        return all([common_divisor(top, bottom) == 1 for top, bottom in pairs])
    # Long bottoms that differ little are those of one product or partner. What any top has in
    # common with any bottom divides shared, which is mostly short: one long reckoning for all.
    shared = common_divisor(rest_of_product([top for top, bottom in pairs], multiple), multiple)
    return all([common_divisor(top, common_divisor(bottom, shared)) == 1 for top, bottom in pairs])


def is_fraction(pair):
    """Whether this is a fraction: a tuple (top, bottom) of whole numbers in lowest terms, bottom from 1 on."""
    return is_pair(pair) and common_divisor(pair[0], pair[1]) == 1


def lowest(top, parts):
    """The fraction that top divided by the product of all parts is, each part from 1 on."""
    return all_lowest([top], parts)[0]


def all_lowest(tops, parts):
    """The list of fractions that these tops divided by the product of all parts are, each part from 1 on.

    They are cut down by one part after the other, since a common divisor with a short number is
    found much sooner than one with the long product of all; and for each part one common divisor,
    with all tops at once, tells what the single ones can be.
    """
    bottoms = [product_of(parts)] * len(tops)
    for part in parts:
        shared = common_divisor(rest_of_product(tops, part), part)
        if shared > 1:
            divisors = [common_divisor(top, shared) for top in tops]
            tops = [top // divisor for top, divisor in zip(tops, divisors)]
            bottoms = [bottom // divisor for bottom, divisor in zip(bottoms, divisors)]
    return [(top, under) if top != 0 else (0, 1) for top, under in zip(tops, bottoms)]


def bottom_parts(fractions):
    """Whole numbers above 1 whose product is the least common multiple of the bottoms."""
    parts = []
    multiple = 1
    for fraction in fractions:
        part = fraction[1] // common_divisor(multiple, fraction[1])
        if part > 1:
            parts.append(part)
            multiple *= part
    return parts


def least_multiple(numbers):
    """The least common multiple of whole numbers from 1 on."""
    multiple = 1
    for number in numbers:
        multiple *= number // common_divisor(multiple, number)
    return multiple


def product_of(numbers):
    """The product of whole numbers."""
    product = 1
    for number in numbers:
        product *= number
    return product


def content_of(numbers):
    """The greatest common divisor of all numbers, 0 where all of them are."""
    content = 0
    for number in numbers:
        content = common_divisor(number, content) if content != 0 else abs(number)
    return content


def added(one, other):
    """The sum of two fractions."""
    shared = common_divisor(one[1], other[1])
    rest = other[1] // shared
    top = one[0] * rest + other[0] * (one[1] // shared)
    # Both were in lowest terms: what top and the bottom have in common divides shared.
    again = common_divisor(top, shared)
    return (top // again, (one[1] // again) * rest)


def multiplied(one, other):
    """The product of two fractions."""
    # Both are in lowest terms: a top can have divisors in common with the other bottom alone.
    first = common_divisor(one[0], other[1])
    second = common_divisor(other[0], one[1])
    return ((one[0] // first) * (other[0] // second), (one[1] // second) * (other[1] // first))


def turned_over(fraction):
    """1 divided by a fraction that is not nought."""
    top, bottom = fraction
    return (bottom, top) if top > 0 else (-bottom, -top)
