"""Ways: the exchanges that lead from an order below another one to an order below it, and uneven papers."""

from lowerboards.below import is_below, lies_below
from lowerboards.boards import board_of
from lowerboards.checks import check_order, is_list, is_pair
from lowerboards.errors import NotBelow
from lowerboards.orders import level, swapped


def ways_at(order, other):
    """The sorted list of the exchanges that, done on the order, lead to an order below the other one."""
    if not is_below(order, other):
        raise NotBelow()
    size = len(order)
    exchanges = [(i, j) for i in range(size) for j in range(i + 1, size)]
    return [(i, j) for i, j in exchanges if lies_below(swapped(order, i, j), other)]


def is_bottom_way(board, first, second):
    """Whether the exchange of these places, done on the sorted order, leads below the order that has this board.

    It does exactly if it leads to a laying of the board. For behind it the corners (m, k) with
    first < m <= second and first + 1 < k <= second + 1 count one more than they have to, all others as much as they
    have to: so each of these has to count more than that in the order, too. Where k is up to m, this asks most of
    the greatest m and the least k: that a thing up to first + 1 stands at the place second or behind it. Where k is
    above m, of the least m and the greatest k: that a thing above second stands at the place first or ahead of it.
    """
    return board[first][1] > second and board[second][0] <= first + 1


def bottom_ways(order):
    """The sorted list of the ways at the sorted order below the order."""
    board = board_of(order)
    size = len(order)
    return [(i, j) for i in range(size) for j in range(i + 1, size) if is_bottom_way(board, i, j)]


def uneven_paper(order):
    """An uneven paper of the order, a list of exchanges; None if it has none."""
    found = bottom_ways(order)
    return found if len(found) > level(order) else None


def is_bottom_way_of(board, value):
    """Whether any value is an exchange that, done on the sorted order, leads below the order that has this board."""
    if not is_pair(value, 0, len(board) - 1):
        return False
    first, second = value
    return first < second and is_bottom_way(board, first, second)


def is_uneven_paper(order, value):
    """Whether any value is an uneven paper of the order."""
    check_order(order)
    # Most values are too short, or no list: of these nothing more is looked at.
    if not is_list(value) or len(value) <= level(order):
        return False
    board = board_of(order)
    if not all(is_bottom_way_of(board, pair) for pair in value):
        return False
    return len(set(value)) == len(value)
