"""Papers for products: each function puts to a paper, a list, the steps that lead what stands at a place on.

A chain is the saying of steps, multiplied, as kept sayings have it: (times first (times second ..)). What
comes of such products is a chain, its number ahead: (times number chain); a number alone where the chain
is empty, and a chain alone where the number is None.
"""

from signsteps.fractions import multiplied


def write(paper, place, *rules):
    """Put steps of rules, one behind the other, at one place to the paper, "-" ahead of those that go back."""
    for rule in rules:
        if rule.startswith("-"):
            paper.append((place, rule[1:], "back", ()))
        else:
            paper.append((place, rule, "there", ()))


def number_ahead(paper, place, chain):
    """Lead (times a (times number chain)) to (times number (times a chain)); an empty chain is left out."""
    if chain:
        write(paper, place, "-join")
        write(paper, place + (0,), "through")
        write(paper, place, "join")
    else:
        write(paper, place, "through")


def numbers_joined(paper, place, chain):
    """Lead (times number (times number chain)) to (times number chain); an empty chain is left out."""
    if chain:
        write(paper, place, "-join")
        write(paper, place + (0,), "by")
    else:
        write(paper, place, "by")


def squared(kind, paper, place, chain):
    """Lead (times first chain) on, the chain beginning with the same step."""
    if len(chain) > 1:
        write(paper, place, "-join")
        write(paper, place + (0,), "square")
    else:
        write(paper, place, "square")
    return kind.squares[chain[0]], chain[1:]


def passed(kind, paper, place, step, chain):
    """Lead (times step chain) on, the chain beginning with a lesser step."""
    first, rest = chain[0], chain[1:]
    if not rest:
        write(paper, place, "swap")
        return -1, (first, step)
    write(paper, place, "-join")
    write(paper, place + (0,), "swap")
    write(paper, place, "join")
    write(paper, place + (1,), "join")
    number, rest = put_in(kind, paper, place + (1, 1), step, rest)
    if number is None:
        return -1, (first,) + rest
    number_ahead(paper, place + (1,), rest)
    numbers_joined(paper, place, (first,) + rest)
    return -number, (first,) + rest


def put_in(kind, paper, place, step, chain):
    """Lead (times step chain), the chain rising, on to a rising chain, perhaps with a number."""
    if step < chain[0]:
        return None, (step,) + chain
    if step == chain[0]:
        return squared(kind, paper, place, chain)
    return passed(kind, paper, place, step, chain)


def put_ahead(kind, paper, place, step, number, chain):
    """Lead (times step a) on, a being a number and a rising chain, or one of them, to the like."""
    if number is None:
        return put_in(kind, paper, place, step, chain)
    number_ahead(paper, place, chain)
    if not chain:
        return number, (step,)
    other, chain = put_in(kind, paper, place + (1,), step, chain)
    if other is None:
        return number, chain
    numbers_joined(paper, place, chain)
    return number * other, chain


def ordered(kind, paper, place, steps, chain):
    """Lead the chain of steps in any order and of a rising chain on to a rising chain, perhaps with a number."""
    number = None
    for many in range(len(steps) - 1, -1, -1):
        number, chain = put_ahead(kind, paper, place + (1,) * many, steps[many], number, chain)
    return number, chain


def kept_term(kind, paper, place, fraction, steps, chain):
    """Lead (times fraction (the chain of steps in any order and of a rising chain)) to a kept term, or to nought.

    The sum is told.
    """
    number, chain = ordered(kind, paper, place + (1,), steps, chain)
    if number is not None:
        numbers_joined(paper, place, chain)
        fraction = multiplied(fraction, (number, 1))
    if number == 0:
        if chain:
            write(paper, place, "nought")
        return ()
    return ((chain, fraction),)


def terms_multiplied(kind, paper, place, one, other):
    """Lead the product of two kept terms to the kept saying of its worth; the sum is told."""
    (first, number), (second, by) = one, other
    fraction = multiplied(number, by)
    if not first:
        numbers_joined(paper, place, second)
        return ((second, fraction),)
    if not second:
        write(paper, place, "through")
        numbers_joined(paper, place, first)
        return ((first, fraction),)
    write(paper, place, "join")
    number_ahead(paper, place + (1,), second)
    numbers_joined(paper, place, first + second)
    for many in range(len(first) - 1):
        write(paper, place + (1,) * (many + 1), "join")
    return kept_term(kind, paper, place, fraction, first, second)


def chain_turned(paper, place, chain):
    """Lead (back chain) to the chain of its steps the other way about."""
    here = place
    for many in range(len(chain) - 1):
        write(paper, here, "about")
        write(paper, here + (1,), "still")
        here = here + (0,)
    write(paper, here, "still")
    for many in range(len(chain) - 2):
        write(paper, place, "join")


def term_turned(kind, paper, place, term):
    """Lead (back term), of a kept term, to the kept term of its worth; the sum is told."""
    product, fraction = term
    if not product:
        write(paper, place, "still")
        return (term,)
    write(paper, place, "about")
    write(paper, place + (1,), "still")
    write(paper, place, "through")
    chain_turned(paper, place + (1,), product)
    return kept_term(kind, paper, place, fraction, product[:0:-1], product[:1])
