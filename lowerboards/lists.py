"""Lists of all orders below an order, above it, between two orders."""

from lowerboards.below import is_below, right_above, right_below
from lowerboards.checks import check_few, check_order, check_orders

MOST_LISTED = 6


def next_level(row, step):
    """The sorted list of all orders to which the step leads from the orders of the row."""
    return sorted(set([found for order in row for found in step(order)]))


def levels_from(order, step):
    """The list of levels, each a sorted list, that are reached from the order by the step."""
    levels = []
    row = [tuple(order)]
    while row:
        levels.append(row)
        row = next_level(row, step)
    return levels


def levels_below(order):
    """The list of levels, from 0 on, each the sorted list of its orders below the order; nothing is looked at."""
    return levels_from(order, right_below)[::-1]


def all_below(order):
    """The list of all orders below the order, by their levels, those of one level sorted."""
    check_order(order)
    check_few(order, MOST_LISTED)
    return [found for row in levels_below(order) for found in row]


def all_above(order):
    """The list of all orders above the order, by their levels, those of one level sorted."""
    check_order(order)
    check_few(order, MOST_LISTED)
    return [found for row in levels_from(order, right_above) for found in row]


def all_between(order, other):
    """The list, likewise, of all orders below the other one to which the order is below."""
    check_orders(order, other)
    check_few(order, MOST_LISTED)
    return [found for found in all_below(other) if is_below(order, found)]
