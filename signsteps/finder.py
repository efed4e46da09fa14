"""Papers found: from a saying to the kept saying of its worth, and between two sayings of one worth."""

from signsteps.chains import term_turned, terms_multiplied, write
from signsteps.fractions import added
from signsteps.papers import sayings_down_to, with_exchanged
from signsteps.rules import exchanged, lost
from signsteps.sayings import check_saying, number_sum, sayings_in, worth
from signsteps.sums import minus


def with_first(paper, place, first, behind):
    """Lead (plus term sum), the sum kept or nought, to a kept saying; the sum is told."""
    if not behind:
        write(paper, place, "turn", "none")
    return (first,) + behind


def like_terms_added(paper, place, one, other):
    """Lead (plus term term), of like products, to a kept term or nought; the fraction is told."""
    fraction = added(one[1], other[1])
    if not one[0]:
        write(paper, place, "add")
        return fraction
    write(paper, place, "-right")
    write(paper, place + (0,), "add")
    if fraction[0] == 0:
        write(paper, place, "nought")
    return fraction


def like_firsts_added(paper, place, one, other):
    """Lead (plus sum sum), both kept, their first terms of like products, to a kept saying; the sum is told."""
    rest, behind = one[1:], other[1:]
    if not rest and not behind:
        fraction = like_terms_added(paper, place, one[0], other[0])
        return ((one[0][0], fraction),) if fraction[0] != 0 else ()
    if rest:
        # The second sum is brought straight behind the first term.
        write(paper, place, "move")
        write(paper, place + (1,), "turn")
    if rest and behind:
        write(paper, place + (1,), "move")
    write(paper, place, "-move")
    fraction = like_terms_added(paper, place + (0,), one[0], other[0])
    behind = sums_added(paper, place + (1,), behind, rest) if rest and behind else rest + behind
    if fraction[0] != 0:
        return with_first(paper, place, (one[0][0], fraction), behind)
    write(paper, place, "none")
    return behind


def sums_added(paper, place, one, other):
    """Lead (plus sum sum), of two kept sayings, to a kept saying; the sum is told."""
    if not one:
        write(paper, place, "none")
        return other
    if not other or other[0][0] < one[0][0]:
        write(paper, place, "turn")
        return sums_added(paper, place, other, one)
    if one[0][0] == other[0][0]:
        return like_firsts_added(paper, place, one, other)
    if len(one) == 1:
        return one + other
    write(paper, place, "move")
    return with_first(paper, place, one[0], sums_added(paper, place + (1,), one[1:], other))


def sums_multiplied(kind, paper, place, one, other):
    """Lead (times sum sum), of two kept sayings, to a kept saying; the sum is told."""
    if not one:
        write(paper, place, "nought")
        return ()
    if not other:
        write(paper, place, "through", "nought")
        return ()
    if len(one) == 1 and len(other) == 1:
        return terms_multiplied(kind, paper, place, one[0], other[0])
    if len(one) > 1:
        write(paper, place, "right")
        pairs = ((one[:1], other), (one[1:], other))
    else:
        write(paper, place, "left")
        pairs = ((one, other[:1]), (one, other[1:]))
    first = sums_multiplied(kind, paper, place + (0,), pairs[0][0], pairs[0][1])
    second = sums_multiplied(kind, paper, place + (1,), pairs[1][0], pairs[1][1])
    return sums_added(paper, place, first, second)


def sum_turned(kind, paper, place, one):
    """Lead (back sum), of a kept saying, to a kept saying; the sum is told."""
    if not one:
        write(paper, place, "still")
        return ()
    found = ()
    for term in one[:-1]:
        write(paper, place, "over")
        found = found + term_turned(kind, paper, place + (0,), term)
        place = place + (1,)
    return found + term_turned(kind, paper, place, one[-1])


def placed_parts(saying):
    """The list of a saying and all sayings in it, each ahead of those in it, from the left, with their places."""
    found = []
    ahead = [(saying, ())]
    while ahead:
        part, place = ahead.pop()
        found.append((part, place))
        inner = [(other, place + (number,)) for number, other in enumerate(sayings_in(part))]
        ahead.extend(inner[::-1])
    return found


def kept_part(kind, paper, part, place, sums):
    """Lead a saying, those in it being kept, to a kept one; the sum is told, those of the others taken off a list."""
    if part[0] == "number":
        return number_sum(part[1])
    if part[0] == "step":
        write(paper, place, "-one")
        return (((part[1],), (1, 1)),)
    first = sums.pop()
    if part[0] == "back":
        return sum_turned(kind, paper, place, first)
    second = sums.pop()
    if part[0] == "plus":
        return sums_added(paper, place, first, second)
    return sums_multiplied(kind, paper, place, first, second)


def to_kept(kind, saying):
    """A paper that leads from a saying to the kept saying of its worth."""
    check_saying(kind, saying)
    paper = []
    sums = []
    for part, place in placed_parts(saying)[::-1]:
        sums.append(kept_part(kind, paper, part, place, sums))
    return paper


def taken_back(kind, saying, paper):
    """The paper that leads from the end of a paper, which leads on from a saying, back to the saying."""
    found = []
    for place, rule, way, more in paper:
        sayings = sayings_down_to(saying, place)
        found.append((place, rule, "there" if way == "back" else "back", lost(rule, way, sayings[-1])))
        saying = with_exchanged(sayings, place, exchanged(kind, sayings[-1], rule, way, more))
    return found[::-1]


def between(kind, one, other):
    """(True, a paper from the one to the other), or (False, the first product in which their worths part)."""
    parting = minus(worth(kind, one), worth(kind, other))
    if parting:
        return (False, parting[0][0])
    return (True, to_kept(kind, one) + taken_back(kind, other, to_kept(kind, other)))
