"""Sayings: tuples of words, numbers, steps and other sayings, and the sums to which they come.

Sayings that were told may be of any depth: none of this goes down into them by calling itself.
"""

from signsteps.fractions import is_fraction
from signsteps.kinds import is_step
from signsteps.sums import check_steps, plus
from signsteps.turning import back
from signsteps.wholes import any_two, times_where


def sayings_in(saying):
    """The tuple of the sayings that stand straight in a saying."""
    return saying[1:] if saying[0] in ("plus", "times", "back") else ()


def parts_from_left(saying):
    """The list of a saying and all sayings in it, each ahead of those in it, from the left."""
    found = []
    ahead = [saying]
    while ahead:
        part = ahead.pop()
        found.append(part)
        ahead.extend(sayings_in(part)[::-1])
    return found


def parts_of(saying):
    """How many sayings stand in a saying, itself among them."""
    return len(parts_from_left(saying))


def check_saying(kind, saying):
    """Refuse the first number from the left that is no step of the kind."""
    check_steps(kind, [part[1] for part in parts_from_left(saying) if part[0] == "step"])


def number_sum(fraction):
    """The sum that a fraction is."""
    return (((), fraction),) if fraction[0] != 0 else ()


def joined_worth(kind, part, worths):
    """The sum to which a saying comes, of the sums of those in it, which are taken off the end of a list."""
    if part[0] == "number":
        return number_sum(part[1])
    if part[0] == "step":
        return (((part[1],), (1, 1)),)
    first = worths.pop()
    if part[0] == "back":
        return back(first)
    second = worths.pop()
    return plus(first, second) if part[0] == "plus" else times_where(kind, first, second, any_two)


def worth(kind, saying):
    """The sum to which a saying comes."""
    check_saying(kind, saying)
    worths = []
    for part in parts_from_left(saying)[::-1]:
        worths.append(joined_worth(kind, part, worths))
    return worths[0]


def chain_saying(steps):
    """The saying of one step or more, multiplied."""
    saying = ("step", steps[-1])
    for step in steps[-2::-1]:
        saying = ("times", ("step", step), saying)
    return saying


def term_saying(product, fraction):
    """The kept saying of one term."""
    number = ("number", fraction)
    return ("times", number, chain_saying(product)) if product else number


def kept_saying(one):
    """The kept saying of a sum."""
    if not one:
        return ("number", (0, 1))
    saying = term_saying(one[-1][0], one[-1][1])
    for product, fraction in one[-2::-1]:
        saying = ("plus", term_saying(product, fraction), saying)
    return saying


def has_form(kind, thing):
    """Whether this is a saying with steps of the kind alone, if what it has in the places of sayings are such."""
    if not isinstance(thing, tuple) or len(thing) < 2:
        return False
    if thing[0] in ("plus", "times"):
        return len(thing) == 3
    if thing[0] == "number":
        return len(thing) == 2 and is_fraction(thing[1])
    if thing[0] == "step":
        return len(thing) == 2 and is_step(kind, thing[1])
    return thing[0] == "back" and len(thing) == 2


def is_saying(kind, thing):
    """Whether this is a saying with steps of the kind alone."""
    ahead = [thing]
    while ahead:
        part = ahead.pop()
        if not has_form(kind, part):
            return False
        ahead.extend(sayings_in(part))
    return True


def heads_of(saying):
    """What tells a saying apart from others, without other sayings in it: Python itself compares them by calls."""
    return [part[0] if sayings_in(part) else part for part in parts_from_left(saying)]


def are_same(one, other):
    """Whether two sayings are the same."""
    return heads_of(one) == heads_of(other)
