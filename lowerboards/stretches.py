"""Stretches: the orders between two orders of which the first one is below the second one."""

from lowerboards.below import is_below, right_above, right_below
from lowerboards.checks import check_few
from lowerboards.errors import NotBelow, NotTwo
from lowerboards.lists import MOST_LISTED, all_between
from lowerboards.orders import level


def check_stretch(order, other):
    """InvalidOrder, UnlikeSizes, then NotBelow unless the order is below the other one."""
    if not is_below(order, other):
        raise NotBelow()


def check_few_between(order, other, limit):
    """As check_stretch, then TooMany if the orders have more things than the limit."""
    check_stretch(order, other)
    check_few(order, limit)


def length(order, other):
    """The level of the second end less that of the first one."""
    check_stretch(order, other)
    return level(other) - level(order)


def stretch_row(order, other):
    """For k from 0 to the length, how many of the orders between have a level that is k more than the first end's."""
    check_few_between(order, other, MOST_LISTED)
    levels = [level(found) for found in all_between(order, other)]
    return [levels.count(at) for at in range(level(order), level(other) + 1)]


def signed(order, other):
    """The first entry of the stretch's row less the second one, and so on in turn."""
    row = stretch_row(order, other)
    return sum(row[::2]) - sum(row[1::2])


def betweens(order, other):
    """The sorted list of the orders beside the ends, in a stretch of length 2."""
    if length(order, other) != 2:
        raise NotTwo()
    lower = right_below(other)
    return [found for found in right_above(order) if found in lower]
