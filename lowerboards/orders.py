"""Orders: wrong pairs, codes, orders undone, turned, behind and beside one another, blocks."""

from lowerboards.basics import MOST_THINGS
from lowerboards.checks import are_within_bounds, check_order, check_orders, check_place
from lowerboards.errors import InvalidCode, InvalidPlace, TooMany


def swapped(order, first, second):
    """The things at two places exchanged; nothing is looked at."""
    things = list(order)
    things[first], things[second] = things[second], things[first]
    return tuple(things)


def wrong_pairs(order):
    """The sorted list of the wrong pairs."""
    check_order(order)
    size = len(order)
    return [(i, j) for i in range(size) for j in range(i + 1, size) if order[i] > order[j]]


def level(order):
    """How many wrong pairs there are."""
    return len(wrong_pairs(order))


def code(order):
    """For each place how many things behind it are less than its thing."""
    pairs = wrong_pairs(order)
    return [len([j for i, j in pairs if i == place]) for place in range(len(order))]


def is_code(value):
    """Whether any value is the code of an order."""
    if not are_within_bounds(value, 0, MOST_THINGS) or not 1 <= len(value) <= MOST_THINGS:
        return False
    return all(count < len(value) - place for place, count in enumerate(value))


def order_of(code):
    """The order that has the code."""
    if not is_code(code):
        raise InvalidCode(code)
    left = list(range(1, len(code) + 1))
    things = []
    for count in code:
        things.append(left.pop(count))
    return tuple(things)


def undone(order):
    """For each thing the place, counted from 1, on which it stands."""
    check_order(order)
    return tuple([order.index(thing) + 1 for thing in range(1, len(order) + 1)])


def turned(order):
    """The order with its places and its things counted from the other end."""
    check_order(order)
    return tuple([len(order) + 1 - thing for thing in order[::-1]])


def one_behind(order, other):
    """The things of the first order that stand where the second one tells."""
    check_orders(order, other)
    return tuple([order[place - 1] for place in other])


def exchanged(order, first, second):
    """The order with the things at two unlike places exchanged."""
    check_order(order)
    check_place(order, first)
    check_place(order, second)
    if first == second:
        raise InvalidPlace(second)
    return swapped(order, first, second)


def falls(order):
    """The rising list of the places whose thing is greater than the next one's."""
    check_order(order)
    return [place for place in range(len(order) - 1) if order[place] > order[place + 1]]


def blocks(order):
    """The list of the blocks, each an order."""
    check_order(order)
    size = len(order)
    # The first things are the least ones exactly where their greatest is their number.
    cuts = [many for many in range(1, size) if max(order[:many]) == many]
    return [tuple([thing - low for thing in order[low:high]]) for low, high in zip([0] + cuts, cuts + [size])]


def beside(order, other):
    """The other order behind the order, raised by the things ahead."""
    check_order(order)
    check_order(other)
    if len(order) + len(other) > MOST_THINGS:
        raise TooMany("things", MOST_THINGS)
    return tuple(order) + tuple([thing + len(order) for thing in other])
