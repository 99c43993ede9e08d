"""Levels: how many orders below an order have each level, and whether that is alike from both ends."""

from lowerboards.checks import check_few, check_order
from lowerboards.four import is_even
from lowerboards.lists import MOST_LISTED, levels_below


def level_row(order):
    """How many of the orders below the order have the level 0, 1, .., up to its own."""
    check_order(order)
    check_few(order, MOST_LISTED)
    return [len(row) for row in levels_below(order)]


def unlike_level(order):
    """The first level that counts another number than its counterpart, with both counts; None without one."""
    row = level_row(order)
    for at, (count, counterpart) in enumerate(zip(row, row[::-1])):
        if count != counterpart:
            return (at, count, counterpart)
    return None


def is_alike(order):
    """Whether the order's counts by level are alike: they are exactly if it is even."""
    return is_even(order)
