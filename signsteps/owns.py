"""Own tables of sums, what stands beside all, and halves."""

from signsteps.errors import NoHalves
from signsteps.sums import check_sums, sum_of
from signsteps.tables import check_rows
from signsteps.wholes import in_order


def products_of(kind):
    """The list of all products of the kind."""
    found = [()]
    for step in range(kind.count):
        found = found + [product + (step,) for product in found]
    return sorted(found)


def found_table(kind, one):
    """What own_table tells, of a sum of the kind."""
    products = products_of(kind)
    places = {product: place for place, product in enumerate(products)}
    rows = []
    for product in products:
        row = [(0, 1)] * len(products)
        for first, (top, bottom) in one:
            number, found = in_order(kind, first + product)
            if number != 0:
                row[places[found]] = (number * top, bottom)
        rows.append(row)
    return rows


def own_table(kind, one):
    """For each product the list of fractions with which the sum times it has each product."""
    check_sums(kind, (one,))
    return found_table(kind, one)


def sum_at(kind, rows):
    """The sum whose own table this is, or None."""
    products = products_of(kind)
    check_rows(rows, len(products))
    # The first product is the empty one: its row tells the sum itself.
    one = tuple([(product, fraction) for product, fraction in zip(products, rows[0]) if fraction[0] != 0])
    return one if found_table(kind, one) == [list(row) for row in rows] else None


def is_beside_all(kind, product):
    """Whether a product times each step is the step times it."""
    return all([in_order(kind, product + (step,)) == in_order(kind, (step,) + product)
                for step in range(kind.count)])


def beside_all(kind):
    """The list, rising, of all products that times each step are the step times them."""
    return [product for product in products_of(kind) if is_beside_all(kind, product)]


def halves(kind):
    """A half of 1 and the product of all steps, and a half of 1 less it, where these are their own squares."""
    everything = tuple(range(kind.count))
    number = in_order(kind, everything + everything)[0]
    if kind.count == 0 or number != 1 or not is_beside_all(kind, everything):
        return None
    return ((((), (1, 2)), (everything, (1, 2))), (((), (1, 2)), (everything, (-1, 2))))


def folded(kind, one, which):
    """The even sum whose product with the first, or second, of halves is that of the sum with it."""
    check_sums(kind, (one,))
    if halves(kind) is None:
        raise NoHalves("a kind without halves")
    if which != 0 and which != 1:
        raise NoHalves("no number of a half")
    # A half times the product of all steps, or less it, is the half: odd products may be taken by it.
    everything = tuple(range(kind.count))
    sign = 1 if which == 0 else -1
    rows = [(product + everything, (sign * top, bottom)) if len(product) & 1 == 1 else (product, (top, bottom))
            for product, (top, bottom) in one]
    return sum_of(kind, rows)
