"""Rooks: in how many ways they are laid on a board and outside of it, hits, and boards that are stairs."""

from math import comb, factorial

from lowerboards.boards import check_board
from lowerboards.errors import NotStair
from lowerboards.layings import one_place_more


def rooks_on(cells):
    """For k from 0 on, in how many ways k rooks are laid on the cells, told as a list of things for each place."""
    ways = {(): 1}
    for things in cells:
        more = one_place_more(ways, things)
        ways = {taken: ways.get(taken, 0) + more.get(taken, 0) for taken in list(ways) + list(more)}
    numbers = range(len(cells) + 1)
    return [sum([count for taken, count in ways.items() if len(taken) == many]) for many in numbers]


def rook_row(board):
    """For k from 0 on, in how many ways k rooks are laid on the board."""
    check_board(board)
    return rooks_on([list(range(low, high + 1)) for low, high in board])


def outside_row(board):
    """For k from 0 on, in how many ways k rooks are laid on the cells that are not on the board."""
    check_board(board)
    beyond = len(board) + 1
    return rooks_on([list(range(1, low)) + list(range(high + 1, beyond)) for low, high in board])


def hits_in(rooks, hits):
    """How many orders have just so many hits: those that have them, told by a rook row, less those that have more."""
    size = len(rooks) - 1
    told = 0
    for many in range(hits, size + 1):
        count = comb(many, hits) * rooks[many] * factorial(size - many)
        told += -count if (many - hits) % 2 == 1 else count
    return told


def hit_row(board):
    """For k from 0 on, how many of all orders have just k of their things within the places' stretches."""
    rooks = rook_row(board)
    return [hits_in(rooks, hits) for hits in range(len(rooks))]


def is_stair(board):
    """Whether all lows of the board are 1."""
    check_board(board)
    return all(low == 1 for low, high in board)


def stair_product(board):
    """The list of the factors of a stair, which come to the number of its layings."""
    if not is_stair(board):
        raise NotStair()
    return [high - place for place, (low, high) in enumerate(board)]
