"""Beyond: layings of an order's board that are not below it, and the papers that show how they come of the order."""

from lowerboards.basics import is_order
from lowerboards.below import is_below
from lowerboards.boards import board_of, is_laying
from lowerboards.checks import check_order
from lowerboards.four import first_way
from lowerboards.standing import is_places, way_at

BESIDE = {
    (4, 2, 3, 1): (3, 4, 1, 2),
    (3, 5, 1, 4, 2): (1, 4, 5, 2, 3),
    (4, 2, 5, 1, 3): (3, 4, 1, 2, 5),
    (3, 5, 1, 6, 2, 4): (1, 4, 5, 2, 3, 6),
}


def laying_at(order, way, places):
    """The order with its things at the places, where the way stands, as the order beside the way has them."""
    rising = sorted([order[place] for place in places])
    things = list(order)
    for place, size in zip(places, BESIDE[way]):
        things[place] = rising[size - 1]
    return tuple(things)


def beyond_paper(order):
    """The beyond paper with the way and the places of first_way; None of a free order."""
    found = first_way(order)
    if found is None:
        return None
    way, places = found
    return (way, places, laying_at(order, way, places))


def beyond(order):
    """A laying of the order's board that is not below the order; None of a free order."""
    paper = beyond_paper(order)
    return None if paper is None else paper[2]


def is_beyond(order, value):
    """Whether any value is a laying of the order's board that is not below the order."""
    board = board_of(order)
    if not is_order(value) or not is_laying(board, value):
        return False
    return not is_below(value, order)


def is_beyond_paper(order, value):
    """Whether any value is a beyond paper of the order."""
    check_order(order)
    if not isinstance(value, tuple) or len(value) != 3:
        return False
    way, places, laying = value
    if not is_order(way) or tuple(way) not in BESIDE:
        return False
    if not is_places(order, places) or way_at(order, places) != tuple(way):
        return False
    return is_order(laying) and tuple(laying) == laying_at(order, tuple(way), places)
