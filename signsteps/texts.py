"""Sums and sayings written as texts, and read."""

from signsteps.errors import NoText
from signsteps.figures import fraction_text, number_of_figures, past_figures, read_count, read_pair, whole_text
from signsteps.fractions import is_fraction
from signsteps.sums import sum_of


def term_text(product, fraction):
    """A term of a sum, written."""
    steps = "".join(["e" + whole_text(step) for step in product])
    if not product:
        return fraction_text(fraction)
    return steps if fraction == (1, 1) else fraction_text(fraction) + " " + steps


def sum_text(one):
    """A sum, written."""
    return " + ".join([term_text(product, fraction) for product, fraction in one]) if one else "0"


def read_steps(text):
    """The tuple of steps, each as e and its number, one at least, that a text is, or None."""
    first, *numbers = text.split("e")
    steps = tuple([read_count(number) for number in numbers])
    return None if first != "" or not steps or None in steps else steps


def read_term(text):
    """The tuple (steps, fraction) that a term's text tells, or None; the fraction perhaps not in lowest terms."""
    number, blank, behind = text.partition(" ")
    if blank:
        pair, steps = read_pair(number), read_steps(behind)
    elif text.startswith("e"):
        pair, steps = (1, 1), read_steps(text)
    else:
        pair, steps = read_pair(text), ()
    return None if pair is None or steps is None else (steps, pair)


def read_sum(kind, text):
    """The sum to which the terms of a text come."""
    terms = [read_term(part) for part in text.split(" + ")]
    if None in terms:
        raise NoText(terms.index(None))
    return sum_of(kind, terms)


def pieces_of(saying):
    """The list of texts and sayings of which, one behind the other, a saying's text is made."""
    match saying:
        case ("number", fraction):
            return [fraction_text(fraction)]
        case ("step", step):
            return ["e" + whole_text(step)]
        case ("back", inner):
            return ["~", inner]
    return ["(", saying[1], " + " if saying[0] == "plus" else " * ", saying[2], ")"]


def saying_text(saying):
    """A saying, written."""
    texts = []
    ahead = [saying]
    while ahead:
        piece = ahead.pop()
        if isinstance(piece, str):
            texts.append(piece)
        else:
            ahead.extend(pieces_of(piece)[::-1])
    return "".join(texts)


def past_number(text, at):
    """Where the number that begins at a place ends; refused where none begins, as far as one may be read."""
    end = past_figures(text, at)
    if end == at:
        raise NoText(at)
    return end


def past_sign(text, at, signs):
    """The place behind one of these signs; refused where another one stands, or none."""
    if text[at:at + 1] not in signs:
        raise NoText(at)
    return at + 1


def read_number(text, at):
    """The number that begins at a place of a saying's text, and where it ends."""
    start = at + 1 if text[at:at + 1] == "-" else at
    end = past_number(text, start)
    top = number_of_figures(text[start:end])
    if top == 0:
        if start > at:
            raise NoText(start)
        return ("number", (0, 1)), end
    top = -top if start > at else top
    if text[end:end + 1] != "/":
        return ("number", (top, 1)), end
    past = past_number(text, end + 1)
    bottom = number_of_figures(text[end + 1:past])
    if bottom == 0:
        raise NoText(end + 1)
    # Each bottom may go on with more figures to one that fits: what stands here may begin one, even if it is none.
    if bottom == 1 or not is_fraction((top, bottom)):
        raise NoText(past)
    return ("number", (top, bottom)), past


def read_leaf(text, at):
    """The number or step that begins at a place of a saying's text, and where it ends."""
    if text[at:at + 1] != "e":
        return read_number(text, at)
    end = past_number(text, at + 1)
    return ("step", number_of_figures(text[at + 1:end])), end


def read_joining(text, at):
    """The word of the sign between two sayings at a place, and where the second one begins."""
    behind = past_sign(text, past_sign(text, past_sign(text, at, (" ",)), ("+", "*")), (" ",))
    return ("plus" if text[at + 1] == "+" else "times"), behind


def closed(text, at, saying, opened):
    """Close what a saying that ends at a place closes; told are the whole saying, or None, and the place behind it.

    What is open stands in a list: ("back",), ("pair",) ahead of the first saying, or (word, first) behind it.
    """
    while opened:
        if opened[-1][0] == "back":
            opened.pop()
            saying = ("back", saying)
        elif opened[-1][0] == "pair":
            word, at = read_joining(text, at)
            opened[-1] = (word, saying)
            return None, at
        else:
            at = past_sign(text, at, (")",))
            word, first = opened.pop()
            saying = (word, first, saying)
    return saying, at


def read_saying(text):
    """The saying that a text is."""
    opened = []
    at = 0
    found = None
    while found is None:
        while text[at:at + 1] in ("(", "~"):
            opened.append(("pair",) if text[at] == "(" else ("back",))
            at += 1
        leaf, at = read_leaf(text, at)
        found, at = closed(text, at, leaf, opened)
    if at < len(text):
        raise NoText(at)
    return found
