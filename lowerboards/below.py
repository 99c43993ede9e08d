"""Below: whether an order comes of another one by putting wrong pairs right, and the chains that show it."""

from lowerboards.checks import check_order, check_orders, is_list, is_pair
from lowerboards.orders import swapped, wrong_pairs


def lies_below(order, other):
    """Whether the order is below another one of as many things: no corner counts more in it; nothing is looked at."""
    # For each k how much more the corner (m, k) counts in the order; m grows from place to place.
    more = [0] * (len(order) + 1)
    for thing, there in zip(order, other):
        for k in range(thing + 1, there + 1):
            more[k] -= 1
        for k in range(there + 1, thing + 1):
            more[k] += 1
            if more[k] > 0:
                return False
    return True


def is_below(order, other):
    """Whether the order is below the other one."""
    check_orders(order, other)
    return lies_below(order, other)


def takes_one_away(order, first, second):
    """Whether the two places are a wrong pair whose exchange takes just one wrong pair away."""
    high, low = order[first], order[second]
    return high > low and not any(low < thing < high for thing in order[first + 1:second])


def next_exchange(upper, lower):
    """The exchange of a chain from an order that is above another one, and not alike, down to it."""
    place = min([at for at in range(len(upper)) if upper[at] != lower[at]])
    fitting = [at for at in range(place + 1, len(upper)) if lower[place] <= upper[at] < upper[place]]
    return (place, min(fitting))


def chain(order, other):
    """A chain from the other one down to the order; None if it is not below."""
    if not is_below(order, other):
        return None
    things = tuple(other)
    told = []
    while things != tuple(order):
        first, second = next_exchange(things, order)
        told.append((first, second))
        things = swapped(things, first, second)
    return told


def is_chain(order, other, value):
    """Whether any value is a chain from the other one down to the order."""
    check_orders(order, other)
    if not is_list(value):
        return False
    things = tuple(other)
    for step in value:
        if not is_pair(step, 0, len(order) - 1):
            return False
        first, second = step
        if first >= second or not takes_one_away(things, first, second):
            return False
        things = swapped(things, first, second)
    return things == tuple(order)


def right_below(order):
    """The sorted list of all orders right below the order."""
    return sorted([swapped(order, i, j) for i, j in wrong_pairs(order) if takes_one_away(order, i, j)])


def right_above(order):
    """The sorted list of all orders right above the order."""
    check_order(order)
    size = len(order)
    raised = [(i, j, swapped(order, i, j)) for i in range(size) for j in range(i + 1, size)]
    return sorted([upper for i, j, upper in raised if takes_one_away(upper, i, j)])
