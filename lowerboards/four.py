"""The four ways: whether an order is free of them, whether it is even, and which corners show that it is not free."""

from lowerboards.corners import counted, least_count, mattering
from lowerboards.standing import stands

FOUR_WAYS = ((4, 2, 3, 1), (3, 5, 1, 4, 2), (4, 2, 5, 1, 3), (3, 5, 1, 6, 2, 4))
UNEVEN_WAYS = ((3, 4, 1, 2), (4, 2, 3, 1))


def first_standing(order, ways):
    """The tuple of the first of the ways that stands in the order and its first standing; None without one."""
    for way in ways:
        places = stands(order, way)
        if places is not None:
            return (way, places)
    return None


def four_ways():
    """The list of the four ways."""
    return list(FOUR_WAYS)


def first_way(order):
    """The first of the four ways that stands in the order, with its first standing; None of a free one."""
    return first_standing(order, FOUR_WAYS)


def is_free(order):
    """Whether none of the four ways stands in the order."""
    return first_way(order) is None


def loose_corner(order):
    """The first corner that matters for the order and counts more than it has to; None without one."""
    loose = [corner for corner in mattering(order) if counted(order, corner) > least_count(corner)]
    return loose[0] if loose else None


def uneven_way(order):
    """3412 or, where this does not stand, 4231, with its first standing; None of an even order."""
    return first_standing(order, UNEVEN_WAYS)


def is_even(order):
    """Whether neither 3412 nor 4231 stands in the order."""
    return uneven_way(order) is None
