"""Even sums as sums of a kind with a step less."""

from signsteps.errors import NoEven, NoSquare
from signsteps.kinds import Kind
from signsteps.sums import check_sums, sum_of
from signsteps.wholes import in_order


def even_kind(kind):
    """The kind of which the even sums of this kind are sums."""
    if kind.count == 0 or kind.squares[-1] == 0:
        raise NoSquare(kind.count - 1)
    return Kind([-square * kind.squares[-1] for square in kind.squares[:-1]])


def spread(kind, product):
    """The steps of a product of the even kind, each put as it and the last step of the kind."""
    last = kind.count - 1
    return tuple([place for step in product for place in (step, last)])


def into_even(kind, one):
    """The even sum that comes when each step of a sum of the even kind is put as it times the last step."""
    check_sums(even_kind(kind), (one,))
    return sum_of(kind, [(spread(kind, product), fraction) for product, fraction in one])


def out_of_even(kind, one):
    """The sum of the even kind from which an even sum comes."""
    smaller = even_kind(kind)
    check_sums(kind, (one,))
    if any([len(product) & 1 == 1 for product, fraction in one]):
        raise NoEven("no even sum")
    rows = []
    for product, (top, bottom) in one:
        source = tuple([step for step in product if step < smaller.count])
        # The number is 1 or -1, and so its own inverse: the last step's square is not nought.
        number = in_order(kind, spread(kind, source))[0]
        rows.append((source, (number * top, bottom)))
    return sum_of(smaller, rows)
