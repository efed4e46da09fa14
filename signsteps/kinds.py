"""Kinds: a few steps, each with a square."""

from signsteps.errors import NoCount, NoFull, NoSquare
from signsteps.fractions import is_whole

MOST_STEPS = 5


def is_square(number):
    """Whether a step can have this square."""
    return is_whole(number) and -1 <= number <= 1


class Kind:
    """The steps from 0 to count less one, each with its square."""

    def __init__(self, squares):
        if len(squares) > MOST_STEPS:
            raise NoCount("a kind has at most five steps")
        for place, square in enumerate(squares):
            if not is_square(square):
                raise NoSquare(place)
        self.squares = tuple(squares)
        self.count = len(self.squares)


def is_step(kind, number):
    """Whether this is a step of the kind."""
    return is_whole(number) and 0 <= number < kind.count


def check_full(kind):
    """Refuse a kind with a square that is nought."""
    for place, square in enumerate(kind.squares):
        if square == 0:
            raise NoFull(place)
