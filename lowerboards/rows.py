"""Rows of stretches: roads and falls, steep rows, and the rows of Kazhdan and Lusztig."""

from math import comb

from lowerboards.below import lies_below
from lowerboards.chains import exchanged_upward, label_pairs
from lowerboards.checks import check_few, check_order
from lowerboards.lists import all_between
from lowerboards.orders import falls, level, swapped, undone
from lowerboards.stretches import check_few_between

MOST_THINGS_IN_ROWS = 5


def check_rows(order, other):
    """InvalidOrder, UnlikeSizes, NotBelow, then TooMany if the orders have more things than rows are told for."""
    check_few_between(order, other, MOST_THINGS_IN_ROWS)


def added(row, other):
    """The entries of two rows of one length, added up."""
    return [entry + more for entry, more in zip(row, other)]


def roads_upward(order, other):
    """For each order between, a dict, the roads row of the order and it, as long as that of both ends."""
    none = [0] * (level(other) - level(order) + 1)
    found = {tuple(order): [1] + none[1:]}
    # A road rises: so it has each label once at most, the lesser ones first.
    for two in label_pairs(len(order)):
        for things, row in list(found.items()):
            upper = exchanged_upward(things, two)
            if upper is not None and lies_below(upper, other):
                found[upper] = added(found.get(upper, none), [0] + row[:-1])
    return found


def roads_row(order, other):
    """For k from 0 to the length, how many rising roads of k exchanges the stretch has."""
    check_rows(order, other)
    return roads_upward(order, other)[tuple(other)]


def one_fall_less(rows, place):
    """A sum of falls rows, told for the second end with the things at the fall at this place exchanged.

    rows: a dict of first ends, each with the row by which its falls row is multiplied in the sum.
    """
    told = {}
    for things, row in rows.items():
        lower = swapped(things, place, place + 1)
        told[lower] = added(told.get(lower, [0] * len(row)), row)
        if things[place] < things[place + 1]:
            told[things] = added(told.get(things, [0] * len(row)), [0] + row[:-1])
    return told


def falls_row(order, other):
    """The falls row of the stretch, told step by step from the falls of the second end."""
    check_rows(order, other)
    none = [0] * (level(other) - level(order) + 1)
    rows = {tuple(order): [1] + none[1:]}
    upper = tuple(other)
    fallen = falls(upper)
    while fallen:
        rows = one_fall_less(rows, fallen[0])
        upper = swapped(upper, fallen[0], fallen[0] + 1)
        fallen = falls(upper)
    # The second end is sorted now: below it is nothing but itself.
    return rows.get(upper, none)


def steep(row, size):
    """The steep row, of so many entries and one, that comes of the roads row."""
    told = [0] * (size + 1)
    for many in range(size, -1, -2):
        below = (size - many) // 2
        for at in range(many + 1):
            power = row[many] * comb(many, at)
            told[below + at] += power if (many - at) % 2 == 0 else -power
    return told


def steep_row(order, other):
    """The steep row of the stretch."""
    row = roads_row(order, other)
    return steep(row, len(row) - 1)


def times(row, other):
    """The product of two rows, multiplied as sums of powers are."""
    told = [0] * (len(row) + len(other) - 1)
    for at, entry in enumerate(row):
        for ahead, factor in enumerate(other):
            told[at + ahead] += entry * factor
    return told


def fallen_at(order, places):
    """The order, raised by exchanges of neighbouring places until it falls from each of these places on."""
    things = tuple(order)
    rising = [place for place in places if things[place] < things[place + 1]]
    while rising:
        things = swapped(things, rising[0], rising[0] + 1)
        rising = [place for place in places if things[place] < things[place + 1]]
    return things


def lifted(order, other):
    """The order, raised until it falls wherever the other one does, and is so undone, too.

    It has the same Lusztig row: this is so behind each exchange of the order's things at a fall of the other one
    (Kazhdan and Lusztig 1979), and as well with both undone.
    """
    told = None
    raised = tuple(order)
    while raised != told:
        told = raised
        raised = undone(fallen_at(undone(fallen_at(told, falls(other))), falls(undone(other))))
    return told


def next_lusztig(order, other, told):
    """The Lusztig row of an order and another one above it, if those of all others between are told, a dict."""
    size = level(other) - level(order)
    total = [0] * (size + 1)
    for things, roads in roads_upward(order, other).items():
        if things != order:
            row = times(steep(roads, level(things) - level(order)), told[things])
            total = added(total, row + [0] * (size + 1 - len(row)))
    # The row itself stands in the sum, too, all its entries ahead of the middle, turned all behind it.
    row = [-entry for entry in total[:(size + 1) // 2]]
    while row[-1] == 0:
        row = row[:-1]
    return row


def lusztig(order, other):
    """The Lusztig row of the stretch."""
    check_rows(order, other)
    least = lifted(order, other)
    told = {tuple(other): [1]}
    # From the second end down: so all that are above an order are told ahead of it.
    for things in all_between(least, other)[-2::-1]:
        raised = lifted(things, other)
        told[things] = told[raised] if raised != things else next_lusztig(things, other, told)
    return list(told[least])


def is_trivial(order):
    """Whether the Lusztig row from the sorted order to this one is [1]."""
    check_order(order)
    check_few(order, MOST_THINGS_IN_ROWS)
    return lusztig(tuple(range(1, len(order) + 1)), order) == [1]
