"""Papers: lists of steps by which one saying is led into another, and the looker who judges them."""

from signsteps.errors import BadStep
from signsteps.rules import exchanged
from signsteps.sayings import are_same, sayings_in


def sayings_down_to(saying, place):
    """The list of sayings from a saying down to the one at a place, or None where the place is not there."""
    found = [saying]
    for number in place:
        inner = sayings_in(found[-1])
        if number not in range(len(inner)):
            return None
        found.append(inner[number])
    return found


def with_exchanged(sayings, place, made):
    """The first of these sayings, which lead down to a place, with the last one exchanged."""
    for saying, number in zip(sayings[-2::-1], place[::-1]):
        made = saying[:number + 1] + (made,) + saying[number + 2:]
    return made


def led_by(kind, saying, step):
    """The saying that comes of one by a step of a paper, or None where the step does not fit."""
    if not isinstance(step, tuple) or len(step) != 4:
        return None
    place, rule, way, more = step
    sayings = sayings_down_to(saying, place)
    if sayings is None:
        return None
    made = exchanged(kind, sayings[-1], rule, way, more)
    return None if made is None else with_exchanged(sayings, place, made)


def followed(kind, saying, paper):
    """How many steps of a paper fit, one behind the other, and the saying to which these lead."""
    for at, step in enumerate(paper):
        made = led_by(kind, saying, step)
        if made is None:
            return at, saying
        saying = made
    return len(paper), saying


def stepped(kind, saying, step):
    """The saying that comes of one by a step of a paper."""
    return ends(kind, saying, [step])


def ends(kind, saying, paper):
    """The saying at the end of a paper."""
    many, end = followed(kind, saying, paper)
    if many < len(paper):
        raise BadStep(many)
    return end


def leads(kind, one, paper, other):
    """Whether a paper leads from one saying to another."""
    many, end = followed(kind, one, paper)
    return many == len(paper) and are_same(end, other)
