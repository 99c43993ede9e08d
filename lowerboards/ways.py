"""Ways: the exchanges that lead from an order below another one to an order below it, and uneven papers."""

from lowerboards.below import is_below
from lowerboards.checks import check_order, is_list, is_pair
from lowerboards.errors import NotBelow
from lowerboards.orders import level, swapped


def ways_at(order, other):
    """The sorted list of the exchanges that, done on the order, lead to an order below the other one."""
    if not is_below(order, other):
        raise NotBelow()
    size = len(order)
    exchanges = [(i, j) for i in range(size) for j in range(i + 1, size)]
    return [(i, j) for i, j in exchanges if is_below(swapped(order, i, j), other)]


def bottom_ways(order):
    """The sorted list of the ways at the sorted order below the order."""
    check_order(order)
    return ways_at(tuple(range(1, len(order) + 1)), order)


def uneven_paper(order):
    """An uneven paper of the order, a list of exchanges; None if it has none."""
    found = bottom_ways(order)
    return found if len(found) > level(order) else None


def is_uneven_paper(order, value):
    """Whether any value is an uneven paper of the order."""
    found = bottom_ways(order)
    if not is_list(value) or len(value) <= level(order):
        return False
    if not all(is_pair(pair, 0, len(order) - 1) and pair in found for pair in value):
        return False
    return len(set(value)) == len(value)
