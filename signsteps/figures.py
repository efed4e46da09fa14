"""Whole numbers and fractions written by figures, and read.

Python itself writes and reads only numbers of some thousand figures, and sums that were told may have more:
they go group by group.
"""

from signsteps.fractions import is_fraction

GROUP_FIGURES = 60
GROUP = 10 ** 60


def whole_text(number):
    """A whole number, written."""
    rest = abs(number)
    groups = []
    while rest >= GROUP:
        rest, group = divmod(rest, GROUP)
        groups.append(str(group).zfill(GROUP_FIGURES))
    groups.append(str(rest))
    return ("-" if number < 0 else "") + "".join(groups[::-1])


def fraction_text(fraction):
    """A fraction, written."""
    top, bottom = fraction
    return whole_text(top) if bottom == 1 else whole_text(top) + "/" + whole_text(bottom)


def number_of_figures(text):
    """The number that figures alone, one at least, are."""
    begun = len(text) % GROUP_FIGURES
    number = int("0" + text[:begun])
    for place in range(begun, len(text), GROUP_FIGURES):
        number = number * GROUP + int(text[place:place + GROUP_FIGURES])
    return number


def past_figures(text, at):
    """Where a number by figures that begins at a place, no nought ahead but in 0 itself, ends; there if none begins."""
    if text[at:at + 1] == "0":
        return at + 1
    while "0" <= text[at:at + 1] <= "9":
        at += 1
    return at


def read_count(text):
    """The whole number from 0 on that a text is, or None."""
    if text == "" or past_figures(text, 0) != len(text):
        return None
    return number_of_figures(text)


def read_whole(text):
    """The whole number that a text is, or None."""
    if not text.startswith("-"):
        return read_count(text)
    number = read_count(text[1:])
    return None if number is None or number == 0 else -number


def read_pair(text):
    """The top and the bottom of a fraction, perhaps not in lowest terms, that a text is, or None."""
    over, sign, under = text.partition("/")
    top = read_whole(over)
    bottom = read_count(under) if sign else 1
    return None if top is None or bottom is None or bottom == 0 else (top, bottom)


def read_fraction(text):
    """The fraction that a text is, written as fraction_text does, or None."""
    pair = read_pair(text)
    return pair if is_fraction(pair) and fraction_text(pair) == text else None
