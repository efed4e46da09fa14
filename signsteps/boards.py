"""Boards: square lists of fractions that multiply as the steps do."""

from signsteps.errors import NoBoards, NoFull
from signsteps.fractions import all_lowest, are_lowest, is_pair, least_multiple
from signsteps.kinds import check_full
from signsteps.owns import products_of
from signsteps.sums import check_sums
from signsteps.tables import whole_rows
from signsteps.wholeboards import combined_row, has_square, product_boards, trace_of, turn_sign, unit_rows, whole_board
from signsteps.wholes import in_order, over_one_bottom, sum_over, whole_times, without_noughts

MOST_SIZE = 16

# By the rest of p - q by 8, p and q being how many squares are 1 and -1: twice the exponent of 2 in
# the size of boards_for, less the count of steps.
MORE_FOR_SIZE = (0, 1, 0, 1, 2, 3, 2, 1)

# Boards of size 2, of which greater ones are put together: X, Z have the square 1 and J has -1; each
# two of these three turn sign.
LETTERS = {
    "I": ((1, 0), (0, 1)),
    "X": ((0, 1), (1, 0)),
    "Z": ((1, 0), (0, -1)),
    "J": ((0, -1), (1, 0)),
}

# By the count of steps, where all squares are 1, or all are -1: the letters of each step's board.
LETTERS_OF_ONES = (
    (),
    ("X",),
    ("X", "Z"),
    ("XI", "ZI", "JJ"),
    ("XII", "ZII", "JJI", "JXJ"),
    ("XIII", "ZIII", "JJII", "JXJI", "JZJZ"),
)
LETTERS_OF_LESS = (
    (),
    ("J",),
    ("JI", "XJ"),
    ("JII", "XJI", "ZJZ"),
    ("JII", "XJI", "ZJX", "ZJZ"),
    ("JII", "XJI", "ZJX", "ZJZ", "ZIJ"),
)


def check_kind(kind):
    """Refuse a kind without steps, or with a square that is nought."""
    if kind.count == 0:
        raise NoFull(-1)
    check_full(kind)


def is_row(row, size):
    """Whether this is a list of as many tuples that are fractions if they are in lowest terms."""
    if not isinstance(row, list) or len(row) != size:
        return False
    return all([is_pair(pair) and (pair[0] != 0 or pair[1] == 1) for pair in row])


def is_board(board, size):
    """Whether this is a board of the size."""
    if not isinstance(board, list) or len(board) != size or not all([is_row(row, size) for row in board]):
        return False
    return are_lowest([fraction for row in board for fraction in row])


def are_boards(kind, boards):
    """Whether this is a list of as many boards as the kind has steps, all of one size."""
    if not isinstance(boards, list) or len(boards) != kind.count or not isinstance(boards[0], list):
        return False
    size = len(boards[0])
    return 1 <= size <= MOST_SIZE and all([is_board(board, size) for board in boards])


def whole_boards(kind, boards):
    """The whole boards of steps' boards, perhaps with a fault."""
    check_kind(kind)
    if not are_boards(kind, boards):
        raise NoBoards("no boards of the kind's steps")
    return [whole_board(board) for board in boards]


def first_fault(kind, rows):
    """What board_fault tells, of the steps' whole boards."""
    for step, square in enumerate(kind.squares):
        if not has_square(rows[step], square):
            return ("square", step)
    for first in range(kind.count):
        for second in range(first + 1, kind.count):
            if not turn_sign(rows[first], rows[second]):
                return ("turn", first, second)
    return None


def faultless_boards(kind, boards):
    """The whole boards of steps' boards; those with a fault are refused."""
    rows = whole_boards(kind, boards)
    if first_fault(kind, rows) is not None:
        raise NoBoards("boards that do not multiply as the steps do")
    return rows


def board_fault(kind, boards):
    """None where steps' boards multiply as the steps do, else the first square or turn that is not so."""
    return first_fault(kind, whole_boards(kind, boards))


def board_over(rows, parts):
    """The board of rows of (numbers by their columns, bottom), divided by the product of all parts."""
    size = len(rows)
    fractions = []
    for numbers, bottom in rows:
        fractions.extend(all_lowest([numbers.get(column, 0) for column in range(size)], [bottom]))
    # The parts are those of the whole sum: for each of them one common divisor with all tops tells enough.
    cut = all_lowest([top for top, bottom in fractions], parts)
    found = [(top, bottom * fraction[1]) for (top, bottom), fraction in zip(cut, fractions)]
    return [found[size * place:size * (place + 1)] for place in range(size)]


def board_of(kind, boards, one):
    """The board of a sum, put together of the boards of its products."""
    rows = faultless_boards(kind, boards)
    check_sums(kind, (one,))
    size = len(boards[0])
    whole, parts = over_one_bottom(one)
    found = product_boards(rows, size, list(whole))
    return board_over([combined_row(whole, found, place) for place in range(size)], parts)


def blind(kind, boards):
    """None where no sum but nought has a board of noughts alone, else such a sum."""
    rows = faultless_boards(kind, boards)
    size = len(boards[0])
    everything = tuple(range(kind.count))
    board = product_boards(rows, size, [everything])[everything]
    for number in (1, -1):
        if board == unit_rows(size, number):
            return (((), (-number, 1)), (everything, (1, 1)))
    return None


def traces(kind, found, columns):
    """For each product the trace of its inverse's board times a board of these columns, and one bottom of all."""
    told = {product: trace_of(found[product], columns) for product in products_of(kind)}
    multiple = least_multiple([told[product][1] for product in told])
    whole = {}
    for product in told:
        total, bottom = told[product]
        # The square of a product is 1 or -1 here: its inverse is itself taken by it.
        whole[product] = in_order(kind, product + product)[0] * total * (multiple // bottom)
    return whole, multiple


def sum_of_traces(kind, found, size, columns):
    """The one sum that can have a board of these columns, as a whole sum and its bottom.

    The board of a product but 1 and, perhaps, that of all steps has the trace nought. With t, that of
    the product w of all steps, and the size m the traces are those of m times the sum and t w times it.
    """
    everything = tuple(range(kind.count))
    whole, multiple = traces(kind, found, columns)
    total, bottom = trace_of(found[everything], [[int(row == column) for row in range(size)] for column in range(size)])
    # The square of w is 1 or -1, so that its board's trace is a whole number.
    trace = total // bottom
    if abs(trace) == size:
        # The board of w is that of 1 or less it: the sum w times the sum, or less it, has the same board.
        return whole, 2 * size * multiple
    return whole_times(kind, whole, {(): size, everything: -trace}), (size * size - trace * trace) * multiple


def sum_from(kind, boards, board):
    """A sum whose board this is, or None where no sum has it."""
    rows = faultless_boards(kind, boards)
    size = len(boards[0])
    if not is_board(board, size):
        raise NoBoards("no board of the steps' size")
    found = product_boards(rows, size, products_of(kind))
    lines, parts = whole_rows(board)
    whole, multiple = sum_of_traces(kind, found, size, [list(column) for column in zip(*lines)])
    whole = without_noughts(whole)
    for place, line in enumerate(lines):
        numbers, bottom = combined_row(whole, found, place)
        if [numbers.get(column, 0) for column in range(size)] != [number * bottom * multiple for number in line]:
            return None
    return sum_over(whole, parts + [multiple])


def size_of(kind):
    """The size of the boards that boards_for tells."""
    check_kind(kind)
    return 1 << ((kind.count + MORE_FOR_SIZE[sum(kind.squares) % 8]) // 2)


def letters_for(ones, less):
    """The letters of boards of so many steps with the square 1, and of so many with -1."""
    pairs = min(ones, less)
    of_ones = list(LETTERS_OF_ONES[ones - pairs])
    of_less = list(LETTERS_OF_LESS[less - pairs])
    for many in range(pairs):
        longest = max([len(letters) for letters in of_ones + of_less], default=0)
        of_ones = ["Z" + letters for letters in of_ones] + ["X" + "I" * longest]
        of_less = ["Z" + letters for letters in of_less] + ["J" + "I" * longest]
    return of_ones, of_less


def board_from_letters(letters):
    """The board in which the last letter's board has, at each place, that of the letters ahead taken by the number."""
    rows = [[1]]
    for letter in letters:
        rows = [[by * number for by in line for number in row] for line in LETTERS[letter] for row in rows]
    return [[(number, 1) for number in row] for row in rows]


def boards_for(kind):
    """Steps' boards without a fault, with one 1 or -1 in each row and column and else 0, for which blind tells None."""
    check_kind(kind)
    ones = len([square for square in kind.squares if square == 1])
    of_ones, of_less = letters_for(ones, kind.count - ones)
    boards = []
    for square in kind.squares:
        boards.append(board_from_letters(of_ones.pop() if square == 1 else of_less.pop()))
    return boards
