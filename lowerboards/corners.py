"""Corners: what they count, which of them matter, the least orders in which they count so many."""

from lowerboards.checks import check_corner, check_many, check_number, check_order, check_orders
from lowerboards.orders import falls, undone


def corner_table(order):
    """For each m, from 1 on, the list of what (m, k) counts, for each k from 1 on."""
    check_order(order)
    row = [0] * len(order)
    table = []
    for thing in order:
        row = [count + 1 if thing > at else count for at, count in enumerate(row)]
        table.append(row)
    return table


def counted(order, corner):
    """How many of the first m places have a thing of k or more."""
    check_order(order)
    check_corner(len(order), corner)
    return len([thing for thing in order[:corner[0]] if thing >= corner[1]])


def all_corners(size):
    """The sorted list of all corners of so many things."""
    return [(m, k) for m in range(1, size + 1) for k in range(1, size + 1)]


def over(order, other):
    """The first corner that counts more in the order than in the other one; None without one."""
    check_orders(order, other)
    here, there = corner_table(order), corner_table(other)
    for m, k in all_corners(len(order)):
        if here[m - 1][k - 1] > there[m - 1][k - 1]:
            return (m, k)
    return None


def is_mattering(order, corner):
    """Whether the corner matters for the order; m is below n and k from 2 on."""
    m, k = corner
    if not order[m - 1] < k <= order[m]:
        return False
    return k in order[m:] and k - 1 in order[:m]


def mattering(order):
    """The sorted list of the corners that matter for the order."""
    check_order(order)
    size = len(order)
    inner = [(m, k) for m in range(1, size) for k in range(2, size + 1)]
    return [corner for corner in inner if is_mattering(order, corner)]


def least_count(corner):
    """What the corner counts in each order, at least."""
    return max(0, corner[0] - corner[1] + 1)


def least_with(size, corner, many):
    """The least order of so many things in which the corner counts at least so many."""
    check_many(size)
    check_corner(size, corner)
    m, k = corner
    check_number(many, 0, min(m, size - k + 1))
    if many <= least_count(corner):
        return tuple(range(1, size + 1))
    ahead = list(range(1, m - many + 1)) + list(range(k, k + many))
    return tuple(ahead + [thing for thing in range(1, size + 1) if thing not in ahead])


def is_single(order):
    """Whether the order has just one fall, and its undone just one, too."""
    return len(falls(order)) == 1 and len(falls(undone(order))) == 1


def singles_below(order):
    """For each corner that counts more than it has to: the greatest single of it that is below the order.

    A dict of the singles, each with its corner and what that counts.
    """
    size = len(order)
    found = {}
    for corner in all_corners(size):
        count = counted(order, corner)
        if count > least_count(corner):
            found[least_with(size, corner, count)] = (corner, count)
    return found


def bearing(order):
    """The sorted list of the greatest singles below the order."""
    check_order(order)
    found = singles_below(order)
    told = []
    for single, (corner, count) in found.items():
        # It is below just those others in which its corner counts as much.
        above = [other for other in found if other != single and counted(other, corner) >= count]
        if not above:
            told.append(single)
    return sorted(told)
