"""Standing: where an order has things in the same sequence of sizes as a way, things put in and taken out."""

from lowerboards.basics import MOST_THINGS
from lowerboards.checks import check_order, check_place, is_rising_list, is_within_bounds
from lowerboards.errors import InvalidPlace, InvalidPlaces, InvalidThing, TooFew, TooMany


def is_places(order, value):
    """Whether any value is a rising list of places of the order, at least one."""
    return is_rising_list(value, 0, len(order) - 1) and len(value) >= 1


def in_sizes(things):
    """The order of as many things in the same sequence of sizes."""
    rising = sorted(things)
    return tuple([rising.index(thing) + 1 for thing in things])


def way_at(order, places):
    """The way at the places; nothing is looked at."""
    return in_sizes([order[place] for place in places])


def longer_places(size, places):
    """The sorted list of the places, a rising tuple, with one more of so many behind them."""
    behind = places[-1] + 1 if places else 0
    return [places + (place,) for place in range(behind, size)]


def standings(order, way):
    """The sorted list of all standings of the way in the order."""
    check_order(order)
    check_order(way)
    size = len(order)
    found = [()]
    for many in range(1, len(way) + 1):
        begun = in_sizes(way[:many])
        longer = [places for ahead in found for places in longer_places(size, ahead)]
        found = [places for places in longer if way_at(order, places) == begun]
    return found


def stands(order, way):
    """The first standing of the way in the order; None without one."""
    found = standings(order, way)
    return found[0] if found else None


def at_places(order, places):
    """The way at the places."""
    check_order(order)
    if not is_places(order, places):
        raise InvalidPlaces(places)
    return way_at(order, places)


def put_in(order, place, thing):
    """The order with a thing more at the place, the things from it on raised by one."""
    check_order(order)
    if not is_within_bounds(place, 0, len(order)):
        raise InvalidPlace(place)
    if not is_within_bounds(thing, 1, len(order) + 1):
        raise InvalidThing(thing)
    if len(order) == MOST_THINGS:
        raise TooMany("things", MOST_THINGS)
    raised = [other + 1 if other >= thing else other for other in order]
    return tuple(raised[:place] + [thing] + raised[place:])


def taken_out(order, place):
    """The order without the place and its thing, the things above that one lowered by one."""
    check_order(order)
    check_place(order, place)
    if len(order) == 1:
        raise TooFew()
    gone = order[place]
    return tuple([thing - 1 if thing > gone else thing for thing in order if thing != gone])
