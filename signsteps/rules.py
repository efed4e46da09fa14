"""The rules by which one saying is exchanged for another of the same worth."""

from signsteps.fractions import added, is_fraction, multiplied
from signsteps.kinds import is_step
from signsteps.sayings import are_same, is_saying

NOUGHT = ("number", (0, 1))
ONE = ("number", (1, 1))
LESS_ONE = ("number", (-1, 1))

# These need to be told, going back, what they lose going there.
LOSING_RULES = ("add", "by", "nought", "square")


def gone_there(kind, rule, saying):
    """The saying for which the rule exchanges one there, or None where it does not fit."""
    match (rule, saying):
        case ("turn", ("plus", a, b)):
            return ("plus", b, a)
        case ("move", ("plus", ("plus", a, b), c)):
            return ("plus", a, ("plus", b, c))
        case ("join", ("times", ("times", a, b), c)):
            return ("times", a, ("times", b, c))
        case ("left", ("times", a, ("plus", b, c))):
            return ("plus", ("times", a, b), ("times", a, c))
        case ("right", ("times", ("plus", a, b), c)):
            return ("plus", ("times", a, c), ("times", b, c))
        case ("add", ("plus", ("number", p), ("number", q))):
            return ("number", added(p, q))
        case ("by", ("times", ("number", p), ("number", q))):
            return ("number", multiplied(p, q))
        case ("through", ("times", a, ("number", p))):
            return ("times", ("number", p), a)
        case ("one", ("times", ("number", (1, 1)), a)):
            return a
        case ("none", ("plus", ("number", (0, 1)), a)):
            return a
        case ("nought", ("times", ("number", (0, 1)), a)):
            return NOUGHT
        case ("square", ("times", ("step", i), ("step", j))) if i == j:
            return ("number", (kind.squares[i], 1))
        case ("swap", ("times", ("step", i), ("step", j))) if i != j:
            return ("times", LESS_ONE, ("times", ("step", j), ("step", i)))
        case ("over", ("back", ("plus", a, b))):
            return ("plus", ("back", a), ("back", b))
        case ("about", ("back", ("times", a, b))):
            return ("times", ("back", b), ("back", a))
        case ("still", ("back", a)) if a[0] in ("number", "step"):
            return a
    return None


def gone_back(rule, saying):
    """The saying for which a rule that loses nothing exchanges one back, or None where it does not fit."""
    match (rule, saying):
        case ("turn", ("plus", a, b)):
            return ("plus", b, a)
        case ("move", ("plus", a, ("plus", b, c))):
            return ("plus", ("plus", a, b), c)
        case ("join", ("times", a, ("times", b, c))):
            return ("times", ("times", a, b), c)
        case ("left", ("plus", ("times", a, b), ("times", d, c))):
            return ("times", a, ("plus", b, c)) if are_same(a, d) else None
        case ("right", ("plus", ("times", a, c), ("times", b, d))):
            return ("times", ("plus", a, b), c) if are_same(c, d) else None
        case ("through", ("times", ("number", p), a)):
            return ("times", a, ("number", p))
        case ("one", a):
            return ("times", ONE, a)
        case ("none", a):
            return ("plus", NOUGHT, a)
        case ("swap", ("times", ("number", (-1, 1)), ("times", ("step", j), ("step", i)))) if i != j:
            return ("times", ("step", i), ("step", j))
        case ("over", ("plus", ("back", a), ("back", b))):
            return ("back", ("plus", a, b))
        case ("about", ("times", ("back", b), ("back", a))):
            return ("back", ("times", a, b))
        case ("still", a) if a[0] in ("number", "step"):
            return ("back", a)
    return None


def got_back(kind, rule, saying, more):
    """The saying for which a rule exchanges a number back, told what it lost, or None where it does not fit."""
    if saying[0] != "number":
        return None
    if rule in ("add", "by"):
        if len(more) != 2 or not is_fraction(more[0]) or not is_fraction(more[1]):
            return None
        word = "plus" if rule == "add" else "times"
        made = (word, ("number", more[0]), ("number", more[1]))
    elif rule == "nought":
        if len(more) != 1 or not is_saying(kind, more[0]):
            return None
        made = ("times", NOUGHT, more[0])
    else:
        if len(more) != 1 or not is_step(kind, more[0]):
            return None
        made = ("times", ("step", more[0]), ("step", more[0]))
    return made if gone_there(kind, rule, made) == saying else None


def exchanged(kind, saying, rule, way, more):
    """The saying for which a rule exchanges one, this or that way, or None where the step does not fit."""
    if way == "back" and rule in LOSING_RULES:
        return got_back(kind, rule, saying, more)
    if more != ():
        return None
    if way == "there":
        return gone_there(kind, rule, saying)
    return gone_back(rule, saying) if way == "back" else None


def lost(rule, way, saying):
    """What must be told to a step that takes back that of a rule, which fits a saying, this or that way."""
    if way == "back" or rule not in LOSING_RULES:
        return ()
    if rule == "nought":
        return (saying[2],)
    if rule == "square":
        return (saying[1][1],)
    return (saying[1][1], saying[2][1])
