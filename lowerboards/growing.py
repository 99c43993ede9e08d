"""Growing: lists of an order's places in which each one's knot fits, growings and knot orders."""

from lowerboards.checks import check_order, is_each_once
from lowerboards.errors import InvalidGrowing
from lowerboards.multipliers import ever_falls


def knot_at(order, place, ahead):
    """The places among those ahead that are tied to the place, rising."""
    return [other for other in sorted(ahead) if (place - other) * (order[other] - order[place]) > 0]


def is_tied(order, place, knot):
    """Whether all places of the place's knot, rising, are tied to one another: then their things fall."""
    return ever_falls([order[other] for other in knot])


def is_outermost(order, place, knot):
    """Whether the knot is tied, and the place's thing is greater, or less, than all things of its knot."""
    greater = [other for other in knot if order[other] > order[place]]
    return len(greater) in (0, len(knot)) and is_tied(order, place, knot)


def taken_apart(order, fits):
    """A list of all places, each once, in which each one's knot fits; None without one.

    It is found from its end on: whichever place fits behind all others that are left can stand there, for an
    order that has such a list still has one without the place.
    """
    left = list(range(len(order)))
    told = []
    while left:
        last = [place for place in left if fits(order, place, knot_at(order, place, left))]
        if not last:
            return None
        told.append(last[0])
        left = [place for place in left if place != last[0]]
    return told[::-1]


def knots_at(order, value):
    """For each place of the list its knot."""
    return [knot_at(order, place, value[:at]) for at, place in enumerate(value)]


def is_list_that_fits(order, value, fits):
    """Whether any value is a list of all places, each once, in which each one's knot fits."""
    if not is_each_once(value, len(order)):
        return False
    return all(fits(order, place, knot) for place, knot in zip(value, knots_at(order, value)))


def growing(order):
    """A growing of the order, a list; None without one."""
    check_order(order)
    return taken_apart(order, is_outermost)


def is_growing(order, value):
    """Whether any value is a growing of the order."""
    check_order(order)
    return is_list_that_fits(order, value, is_outermost)


def growths(order, value):
    """The numbers of places in the knots of a growing, in its sequence."""
    if not is_growing(order, value):
        raise InvalidGrowing(value)
    return [len(knot) for knot in knots_at(order, value)]


def knot_order(order):
    """A knot order of the order, a list; None without one."""
    check_order(order)
    return taken_apart(order, is_tied)


def is_knot_order(order, value):
    """Whether any value is a knot order of the order."""
    check_order(order)
    return is_list_that_fits(order, value, is_tied)


def knots(order, value):
    """The numbers of places in the knots of a knot order, in its sequence."""
    if not is_knot_order(order, value):
        raise InvalidGrowing(value)
    return [len(knot) for knot in knots_at(order, value)]
