"""Boards: for each place the stretch of the things that it lets."""

from lowerboards.basics import MOST_THINGS
from lowerboards.checks import check_order, is_list, is_pair
from lowerboards.errors import InvalidBoard, TooMany


def never_falls(numbers):
    """Whether no number is less than the one ahead of it."""
    return all(one <= following for one, following in zip(numbers, numbers[1:]))


def is_board(value):
    """Whether any value is a board."""
    if not is_list(value) or not 1 <= len(value) <= MOST_THINGS:
        return False
    if not all(is_pair(stretch, 1, len(value)) for stretch in value):
        return False
    # So no low is above its high, either.
    if not all(low <= at + 1 <= high for at, (low, high) in enumerate(value)):
        return False
    return never_falls([low for low, high in value]) and never_falls([high for low, high in value])


def check_board(board):
    """InvalidBoard unless a board."""
    if not is_board(board):
        raise InvalidBoard(board)


def board_of(order):
    """The board of the order, a list of tuples."""
    check_order(order)
    return [(min(order[place:]), max(order[:place + 1])) for place in range(len(order))]


def is_laying(board, order):
    """Whether the order is a laying of the board."""
    check_board(board)
    check_order(order)
    if len(order) != len(board):
        return False
    return all(low <= thing <= high for thing, (low, high) in zip(order, board))


def undone_board(board):
    """For each thing the least and the greatest place, counted from 1, whose stretch has it."""
    check_board(board)
    told = []
    for thing in range(1, len(board) + 1):
        places = [at + 1 for at, (low, high) in enumerate(board) if low <= thing <= high]
        told.append((min(places), max(places)))
    return told


def turned_board(board):
    """The board with its places and its things counted from the other end."""
    check_board(board)
    beyond = len(board) + 1
    return [(beyond - high, beyond - low) for low, high in board[::-1]]


def raised(board, many):
    """The board's stretches, raised by so many things (lowered by a number below 0)."""
    return [(low + many, high + many) for low, high in board]


def beside_boards(board, other):
    """The other board's places behind the board's own, its stretches beyond the board's things."""
    check_board(board)
    check_board(other)
    if len(board) + len(other) > MOST_THINGS:
        raise TooMany("places", MOST_THINGS)
    return raised(board, 0) + raised(other, len(board))


def blocks_of(board):
    """The list of the boards that the board is beside one another of, cut as fine as can be."""
    check_board(board)
    size = len(board)
    cuts = [at for at in range(1, size) if board[at][0] == at + 1 and board[at - 1][1] == at]
    return [raised(board[start:end], -start) for start, end in zip([0] + cuts, cuts + [size])]
